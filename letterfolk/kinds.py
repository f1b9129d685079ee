"""The plain kinds: numbers, words, addresses, values and letters."""


def is_number(thing):
    """Whether the thing is an int, below 0 too."""
    return isinstance(thing, int) and not isinstance(thing, bool)


def is_above_nothing(thing):
    """Whether the thing is a number above 0."""
    return is_number(thing) and thing > 0


def is_word(thing):
    """Whether the thing is a text of one to eight small letters."""
    if not isinstance(thing, str) or not 1 <= len(thing) <= 8:
        return False
    return all(["a" <= sign <= "z" for sign in thing])


def is_address(thing):
    """Whether the thing is ("at", house, n), both from 0 on."""
    if not isinstance(thing, tuple) or len(thing) != 3 or thing[0] != "at":
        return False
    return all([is_number(part) and part >= 0 for part in thing[1:]])


def is_value(thing):
    """Whether the thing is a number, a word or an address."""
    return is_number(thing) or is_word(thing) or is_address(thing)


def is_letter(thing):
    """Whether the thing is (tag, values)."""
    if not isinstance(thing, tuple) or len(thing) != 2 or not is_word(thing[0]):
        return False
    return isinstance(thing[1], tuple) and all([is_value(value) for value in thing[1]])
