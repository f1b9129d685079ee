"""Behaviours made into rows."""

from letterfolk.sumrows import sum_rows


def _rows_of_sums(sums):
    return [row for amount in sums for row in sum_rows(amount)]


def _act_rows(act):
    word = act[0]
    if word == "send":
        return [*sum_rows(act[1]), *_rows_of_sums(act[3]), ("send", act[2], len(act[3]))]
    if word == "make":
        return [*_rows_of_sums(act[3]), ("make", act[1], act[2], len(act[3]), act[4])]
    if word == "name":
        return [*sum_rows(act[2]), ("name", act[1])]
    if word == "ask":
        return [("ask", act[1], act[2])]
    return [*sum_rows(act[1]), (word,)]


def _next_rows(last):
    if last[0] == "go":
        return [*_rows_of_sums(last[2]), ("go", last[1], len(last[2]))]
    return [*sum_rows(last[1]), ("end",)]


def _body_rows(acts, last):
    return [*[row for act in acts for row in _act_rows(act)], *_next_rows(last)]


def _arm_rows(arm, start):
    """The rows of the arm, the first of which has the number start among those of all arms."""
    tag, names, guard, acts, last = arm
    test = sum_rows(guard)
    body = _body_rows(acts, last)
    behind = start + 1 + len(test) + 1 + len(body)
    return [("arm", tag, names, behind), *test, ("guard", behind), *body]


def made(behaviour):
    """What the behaviour is made into: (params, arms, wait, late)."""
    _, params, arms, late = behaviour
    rows = []
    for arm in arms:
        rows.extend(_arm_rows(arm, len(rows)))
    rows.append(("none",))
    if late is None:
        return (params, tuple(rows), None, None)
    return (params, tuple(rows), sum_rows(late[0]), tuple(_body_rows(late[1], late[2])))


def made_code(code):
    """The name of each behaviour with what it is made into."""
    return tuple([(behaviour[0], made(behaviour)) for behaviour in code])
