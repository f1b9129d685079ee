"""Sums, the bindings of names to values, and what a sum is worth by them."""

from letterfolk.kinds import is_number, is_value, is_word

NOBODY = ("at", 0, 0)
PAIRINGS = ("plus", "minus", "less", "same")


def is_sum(thing):
    """Whether the thing is a sum."""
    if not isinstance(thing, tuple) or not 1 <= len(thing) <= 3:
        return False
    word = thing[0]
    if len(thing) == 1:
        return word == "self"
    if len(thing) == 3:
        return word in PAIRINGS and is_sum(thing[1]) and is_sum(thing[2])
    if word == "is":
        return is_value(thing[1])
    return word == "of" and is_word(thing[1])


def has_self(amount):
    """Whether ("self",) stands in the sum, however deep."""
    if amount[0] in PAIRINGS:
        return has_self(amount[1]) or has_self(amount[2])
    return amount[0] == "self"


def bound(bindings, *, names, values):
    """The bindings in which each of the names has its value, the later one of a name that stands twice."""
    table = dict(bindings)
    for name, value in zip(names, values):
        table[name] = value
    return tuple([(name, table[name]) for name in sorted(table)])


def value_of(name, bindings):
    """What the name has, 0 where it isn't there."""
    for other, value in bindings:
        if other == name:
            return value
    return 0


def combined(word, one, other):
    """What the word of a sum makes of the values of its two parts."""
    if word == "same":
        return 1 if one == other else 0
    first = one if is_number(one) else 0
    second = other if is_number(other) else 0
    if word == "plus":
        return first + second
    if word == "minus":
        return first - second
    return 1 if first < second else 0


def worth(amount, *, bindings=(), address=NOBODY):
    """The value of the sum for who lives at the address."""
    word = amount[0]
    if word == "is":
        return amount[1]
    if word == "of":
        return value_of(amount[1], bindings)
    if word == "self":
        return address
    one = worth(amount[1], bindings=bindings, address=address)
    other = worth(amount[2], bindings=bindings, address=address)
    return combined(word, one, other)
