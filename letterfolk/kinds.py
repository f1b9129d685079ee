"""The plain kinds: numbers, words, addresses, values and letters."""


def is_number(thing):
    """Whether the thing is an int, below 0 too."""
    return isinstance(thing, int) and not isinstance(thing, bool)


def is_count(thing):
    """Whether the thing is a number from 0 on."""
    return is_number(thing) and thing >= 0


def is_above_nothing(thing):
    """Whether the thing is a number above 0."""
    return is_number(thing) and thing > 0


def is_word(thing):
    """Whether the thing is a text of one to eight small letters."""
    if not isinstance(thing, str) or not 1 <= len(thing) <= 8:
        return False
    return all(["a" <= sign <= "z" for sign in thing])


def is_address(thing):
    """Whether the thing is ("at", house, n), both from 0 on."""
    if not isinstance(thing, tuple) or len(thing) != 3 or thing[0] != "at":
        return False
    return is_count(thing[1]) and is_count(thing[2])


def is_value(thing):
    """Whether the thing is a number, a word or an address."""
    return is_number(thing) or is_word(thing) or is_address(thing)


def are_values(thing):
    """Whether the thing is a tuple of values."""
    return isinstance(thing, tuple) and all([is_value(value) for value in thing])


def is_pair(thing):
    """Whether the thing is a tuple of two."""
    return isinstance(thing, tuple) and len(thing) == 2


def is_letter(thing):
    """Whether the thing is (tag, values)."""
    return is_pair(thing) and is_word(thing[0]) and are_values(thing[1])
