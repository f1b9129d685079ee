"""Plain things and steps written as texts."""

from letterfolk.kinds import is_address

# Python itself writes no number of more than some thousand figures: so they are written piece by piece.
FIGURES = 60
PIECE = 10 ** 60


def _number_word(number):
    if number < 0:
        return "-" + _number_word(-number)
    pieces = []
    while number >= PIECE:
        number, piece = divmod(number, PIECE)
        pieces.append(str(piece).zfill(FIGURES))
    pieces.append(str(number))
    return "".join(pieces[::-1])


def _word(thing):
    """The word that writes a thing that is no tuple, or an address."""
    if thing is None:
        return "-"
    if thing is True:
        return "+"
    if thing is False:
        return "/"
    if isinstance(thing, str):
        return thing
    if isinstance(thing, tuple):
        return f"@{_number_word(thing[1])}.{_number_word(thing[2])}"
    return _number_word(thing)


def _words_of(things):
    """The words that write the things, one behind the other; they wait on a pile, however deep they are."""
    words = []
    waiting = list(things)[::-1]
    while waiting:
        thing = waiting.pop()
        if isinstance(thing, tuple) and not is_address(thing):
            words.append("(")
            # No plain thing is this bracket: it stands for itself behind what is in the tuple.
            waiting.append(")")
            waiting.extend(thing[::-1])
        else:
            words.append(_word(thing))
    return words


def shown_thing(thing):
    """The text that writes a plain thing."""
    return " ".join(_words_of((thing,)))


def shown_steps(steps):
    """The text that writes steps: a line each."""
    return "\n".join([" ".join(_words_of(step)) for step in steps])
