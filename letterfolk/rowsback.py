"""Rows led back to the code of which they were made."""

from letterfolk.sumrows import LEAVES, is_sum_row


def _put_back(pile, row):
    """Run one row of a sum on a pile of trees, a list, which it changes."""
    if row[0] in LEAVES:
        pile.append(row)
        return
    other = pile.pop()
    one = pile.pop()
    pile.append((row[0], one, other))


def _sum_back(rows):
    pile = []
    for row in rows:
        _put_back(pile, row)
    return pile.pop()


def _act_back(row, sums):
    """The act or the next of a row and the sums ahead of it."""
    word = row[0]
    if word == "send":
        return ("send", sums[0], row[1], tuple(sums[1:]))
    if word == "make":
        return ("make", row[1], row[2], tuple(sums), row[4])
    if word == "go":
        return ("go", row[1], tuple(sums))
    if word == "name":
        return ("name", row[1], sums[0])
    if word == "ask":
        return row
    return (word, sums[0])


def _body_back(rows, at):
    """(acts, next, at): those whose rows begin at this number, and the number of the row behind them."""
    acts = []
    pile = []
    while True:
        row = rows[at]
        at += 1
        if is_sum_row(row):
            _put_back(pile, row)
            continue
        acts.append(_act_back(row, pile))
        pile = []
        if row[0] in ("go", "end"):
            return tuple(acts[:-1]), acts[-1], at


def _arms_back(rows):
    arms = []
    at = 0
    while rows[at][0] == "arm":
        _, tag, names, _ = rows[at]
        start = at + 1
        while rows[at][0] != "guard":
            at += 1
        guard = _sum_back(rows[start:at])
        acts, last, at = _body_back(rows, at + 1)
        arms.append((tag, names, guard, acts, last))
    return tuple(arms)


def _behaviour_back(name, parts):
    params, arms, wait, late = parts
    if wait is None:
        return (name, params, _arms_back(arms), None)
    acts, last, _ = _body_back(late, 0)
    return (name, params, _arms_back(arms), (_sum_back(wait), acts, last))


def unmade(rows):
    """The code of which the made code was made."""
    return tuple([_behaviour_back(name, parts) for name, parts in rows])
