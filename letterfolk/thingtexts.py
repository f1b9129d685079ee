"""Plain things and steps written as texts."""

from letterfolk.kinds import is_address

# Python itself writes no number of more than some thousand figures: so they are written piece by piece.
FIGURES = 60
PIECE = 10 ** 60


def _number_word(number):
    if number < 0:
        return "-" + _number_word(-number)
    pieces = []
    while number >= PIECE:
        number, piece = divmod(number, PIECE)
        pieces.append(str(piece).zfill(FIGURES))
    pieces.append(str(number))
    return "".join(pieces[::-1])


def _words_of(things):
    return [word for thing in things for word in _words(thing)]


def _words(thing):
    """The words that write the thing."""
    if thing is None:
        return ["-"]
    if thing is True:
        return ["+"]
    if thing is False:
        return ["/"]
    if isinstance(thing, str):
        return [thing]
    if is_address(thing):
        return [f"@{_number_word(thing[1])}.{_number_word(thing[2])}"]
    if isinstance(thing, tuple):
        return ["(", *_words_of(thing), ")"]
    return [_number_word(thing)]


def shown_thing(thing):
    """The text that writes a plain thing."""
    return " ".join(_words(thing))


def shown_steps(steps):
    """The text that writes steps: a line each."""
    return "\n".join([" ".join(_words_of(step)) for step in steps])
