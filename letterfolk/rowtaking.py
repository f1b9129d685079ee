"""What comes of taking a letter, and of being late, by rows: the same as by the tree."""

from letterfolk.fitting import ticks_of
from letterfolk.hands import Hands
from letterfolk.kinds import is_above_nothing
from letterfolk.sumrows import is_sum_row, lay, run_sums
from letterfolk.sums import NOBODY, bound


def _guard_worth(arms, at, bindings, address):
    """(worth, at): of the guard whose rows begin at this number, and the number of the row behind it."""
    pile = []
    while arms[at][0] != "guard":
        lay(pile, arms[at], bindings=bindings, address=address)
        at += 1
    return pile.pop(), at + 1


def _first_fitting(rows, values, letter, address):
    """(number, at, bindings): of the first arm that fits, where its acts begin; None where none fits."""
    tag, told = letter
    arms = rows[1]
    own = bound((), names=rows[0], values=values)
    number = 0
    at = 0
    while arms[at][0] == "arm":
        _, arm_tag, names, behind = arms[at]
        if arm_tag == tag and len(names) == len(told):
            bindings = bound(own, names=names, values=told)
            guard, start = _guard_worth(arms, at + 1, bindings, address)
            if is_above_nothing(guard):
                return number, start, bindings
        number += 1
        at = behind
    return None


def _taken_off(pile, many):
    """The last so many values, which go off the pile."""
    start = len(pile) - many
    values = tuple(pile[start:])
    del pile[start:]
    return values


def _do_row(hands, row, pile):
    word = row[0]
    if word == "send":
        values = _taken_off(pile, row[2])
        hands.send(pile.pop(), row[1], values)
    elif word == "make":
        hands.make(row[1], row[2], _taken_off(pile, row[3]), row[4])
    elif word == "name":
        hands.give_word(row[1], pile.pop())
    elif word == "ask":
        hands.ask(row[1], row[2])
    elif word == "trap":
        hands.trap(pile.pop())
    elif word == "tell":
        hands.tell(pile.pop())
    else:
        hands.reach(word, pile.pop())


def _run(hands, rows, at):
    """(deeds, next) of the acts whose rows begin at this number."""
    pile = []
    while rows[at][0] not in ("go", "end"):
        row = rows[at]
        if is_sum_row(row):
            lay(pile, row, bindings=hands.bindings, address=hands.address)
        else:
            _do_row(hands, row, pile)
        at += 1
    last = rows[at]
    if last[0] == "go":
        return hands.go(last[1], _taken_off(pile, last[2]))
    return hands.end(pile.pop())


def row_fitting(rows, values, letter, *, address=NOBODY):
    """The number of the first arm that fits, None where none does."""
    found = _first_fitting(rows, values, letter, address)
    return None if found is None else found[0]


def row_waits(rows, values, *, address=NOBODY):
    """How many ticks it waits till it can be late, None where it has no late."""
    if rows[2] is None:
        return None
    bindings = bound((), names=rows[0], values=values)
    pile = run_sums(rows[2], bindings=bindings, address=address)
    return ticks_of(pile[-1])


def row_taken(rows, state, letter, *, address, around):
    """(deeds, next) of taking the letter, None where no arm fits."""
    _, values, edition = state
    found = _first_fitting(rows, values, letter, address)
    if found is None:
        return None
    _, at, bindings = found
    return _run(Hands(address, edition, around, bindings), rows[1], at)


def row_late(rows, state, *, address, around):
    """(deeds, next) of being late, None where it has no late."""
    if rows[3] is None:
        return None
    _, values, edition = state
    bindings = bound((), names=rows[0], values=values)
    return _run(Hands(address, edition, around, bindings), rows[3], 0)
