"""States and letters led from edition to edition by their tables."""

from letterfolk.looks import behaviour_at
from letterfolk.sums import bound, worth

NAMES = "abcdefghijklmnopqrstuvwxyz"


def _row_at(rows, key):
    """What stands in the rows behind the key, None where it has no row."""
    for first, row in rows:
        if first == key:
            return row
    return None


def _worths(sums, names, values):
    bindings = bound((), names=names, values=values)
    return tuple([worth(amount, bindings=bindings) for amount in sums])


def _state_up(library, state):
    """The state in the edition just above its own, None where it isn't led."""
    name, values, edition = state
    row = _row_at(library[edition + 1][1][0], name)
    if row is None:
        return None
    params = behaviour_at(library[edition][0], name)[1]
    return (row[0], _worths(row[1], params, values), edition + 1)


def _letter_up(library, letter, edition):
    """The letter in this edition, from the one just below; None where it isn't led."""
    tag, values = letter
    row = _row_at(library[edition][1][1], (tag, len(values)))
    if row is None:
        return None
    return (row[0], _worths(row[1], tuple(NAMES[:len(values)]), values))


def _letter_way(library, letter, edition, to):
    """(letter, to), as it is led there; else (None, n), n the first edition on the way to which it isn't."""
    told = letter
    for n in range(edition + 1, to + 1):
        told = _letter_up(library, told, n)
        if told is None:
            return None, n
    return told, to


def state_led(library, state, *, to):
    """The state in a later edition, or its own; None where it isn't led through."""
    told = state
    while told is not None and told[2] < to:
        told = _state_up(library, told)
    return told


def letter_led(library, letter, *, edition, to):
    """The letter of an edition in a later one, or the same; None where it isn't led through."""
    told, _ = _letter_way(library, letter, edition, to)
    return told


def looked(library, letter, *, edition, own):
    """What one in the edition own makes of a letter of this edition."""
    if edition == own:
        return ("as", letter)
    if edition > own:
        return ("waits",)
    told, n = _letter_way(library, letter, edition, own)
    return ("unseen", n) if told is None else ("led", told)
