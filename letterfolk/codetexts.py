"""Code written as a text, line by line."""

SIGNS = {"plus": "+", "minus": "-", "less": "<", "same": "="}


def _value_word(value):
    if isinstance(value, int):
        return str(value)
    if isinstance(value, str):
        return "'" + value
    return f"@{value[1]}.{value[2]}"


def _sum_words(amount):
    word = amount[0]
    if word == "is":
        return [_value_word(amount[1])]
    if word == "of":
        return [amount[1]]
    if word == "self":
        return ["@"]
    return [SIGNS[word], *_sum_words(amount[1]), *_sum_words(amount[2])]


def _sums_words(sums):
    return [word for amount in sums for word in _sum_words(amount)]


def _act_line(act):
    word = act[0]
    if word == "send":
        parts = [*_sum_words(act[1]), act[2], *_sums_words(act[3])]
    elif word == "make":
        parts = [act[1], act[2], act[4], *_sums_words(act[3])]
    elif word == "name":
        parts = [act[1], *_sum_words(act[2])]
    elif word == "ask":
        parts = [act[1], act[2]]
    else:
        parts = _sum_words(act[1])
    return " ".join([word, *parts])


def _next_line(last):
    if last[0] == "go":
        return " ".join(["go", last[1], *_sums_words(last[2])])
    return " ".join(["end", *_sum_words(last[1])])


def _body_lines(acts, last):
    return [*[_act_line(act) for act in acts], _next_line(last)]


def _arm_lines(arm):
    tag, names, guard, acts, last = arm
    head = " ".join(["arm", tag, *names, ":", *_sum_words(guard)])
    return [head, *_body_lines(acts, last)]


def _behaviour_lines(behaviour):
    name, params, arms, late = behaviour
    lines = [" ".join(["be", name, *params])]
    for arm in arms:
        lines.extend(_arm_lines(arm))
    if late is not None:
        lines.append(" ".join(["late", *_sum_words(late[0])]))
        lines.extend(_body_lines(late[1], late[2]))
    return lines


def shown_code(code):
    """The text that writes the code."""
    return "\n".join([line for behaviour in code for line in _behaviour_lines(behaviour)])
