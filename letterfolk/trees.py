"""Behaviours as trees: their parts by kind, and whom they name."""

from letterfolk.kinds import is_word
from letterfolk.sums import is_sum

OF_ONE_SUM = ("link", "unlink", "watch", "trap", "tell")
HOWS = ("free", "linked", "watched")


def are_sums(thing):
    """Whether the thing is a tuple of sums."""
    return isinstance(thing, tuple) and all([is_sum(amount) for amount in thing])


def _are_acts(thing):
    """Whether the thing is a tuple of acts."""
    return isinstance(thing, tuple) and all([is_act(act) for act in thing])


def _are_names(thing):
    """Whether the thing is a tuple of names, none of them twice."""
    if not isinstance(thing, tuple) or not all([is_word(name) for name in thing]):
        return False
    return len(set(thing)) == len(thing)


def _is_send(thing):
    return is_sum(thing[1]) and is_word(thing[2]) and are_sums(thing[3])


def _is_make(thing):
    return is_word(thing[1]) and is_word(thing[2]) and are_sums(thing[3]) and thing[4] in HOWS


def is_act(thing):
    """Whether the thing is an act."""
    if not isinstance(thing, tuple) or not 2 <= len(thing) <= 5:
        return False
    word = thing[0]
    if len(thing) == 2:
        return word in OF_ONE_SUM and is_sum(thing[1])
    if len(thing) == 4:
        return word == "send" and _is_send(thing)
    if len(thing) == 5:
        return word == "make" and _is_make(thing)
    if word == "name":
        return is_word(thing[1]) and is_sum(thing[2])
    return word == "ask" and is_word(thing[1]) and is_word(thing[2])


def is_next(thing):
    """Whether the thing is a next."""
    if not isinstance(thing, tuple) or not 2 <= len(thing) <= 3:
        return False
    if len(thing) == 2:
        return thing[0] == "end" and is_sum(thing[1])
    return thing[0] == "go" and is_word(thing[1]) and are_sums(thing[2])


def is_arm(thing):
    """Whether the thing is an arm: (tag, names, guard, acts, next)."""
    if not isinstance(thing, tuple) or len(thing) != 5:
        return False
    tag, names, guard, acts, last = thing
    return is_word(tag) and _are_names(names) and is_sum(guard) and _are_acts(acts) and is_next(last)


def is_late(thing):
    """Whether the thing is a late: (sum, acts, next)."""
    if not isinstance(thing, tuple) or len(thing) != 3:
        return False
    return is_sum(thing[0]) and _are_acts(thing[1]) and is_next(thing[2])


def is_behaviour(thing):
    """Whether the thing is a behaviour: (name, params, arms, late)."""
    if not isinstance(thing, tuple) or len(thing) != 4:
        return False
    name, params, arms, late = thing
    if not is_word(name) or not _are_names(params) or not isinstance(arms, tuple):
        return False
    return all([is_arm(arm) for arm in arms]) and (late is None or is_late(late))


def _namings_of(acts, last):
    """The namings in acts and the next behind them."""
    found = [(act[2], len(act[3])) for act in acts if act[0] == "make"]
    if last[0] == "go":
        found.append((last[1], len(last[2])))
    return found


def namings(behaviour):
    """Whom the behaviour names, and by how many sums: arm by arm, then what it does late."""
    found = []
    for arm in behaviour[2]:
        found.extend(_namings_of(arm[3], arm[4]))
    late = behaviour[3]
    if late is not None:
        found.extend(_namings_of(late[1], late[2]))
    return tuple(found)
