"""Sums as rows, and what the rows lay on a pile."""

from letterfolk.sums import NOBODY, PAIRINGS, combined, worth

LEAVES = ("is", "of", "self")


def sum_rows(amount):
    """The rows of the sum: those of its parts, then its word."""
    if amount[0] in LEAVES:
        return (amount,)
    return (*sum_rows(amount[1]), *sum_rows(amount[2]), (amount[0],))


def is_sum_row(row):
    """Whether the row is one of a sum's rows."""
    return row[0] in LEAVES or row[0] in PAIRINGS


def lay(pile, row, *, bindings, address):
    """Run one row of a sum on the pile, a list, which it changes."""
    if row[0] in LEAVES:
        pile.append(worth(row, bindings=bindings, address=address))
        return
    other = pile.pop()
    one = pile.pop()
    pile.append(combined(row[0], one, other))


def run_sums(rows, *, bindings=(), address=NOBODY, pile=()):
    """The pile behind the rows: the worth of each sum behind what was there."""
    values = list(pile)
    for row in rows:
        lay(values, row, bindings=bindings, address=address)
    return tuple(values)
