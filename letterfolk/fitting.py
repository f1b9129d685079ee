"""Which arm of a behaviour fits a letter, and how long it waits for one."""

from letterfolk.kinds import is_above_nothing
from letterfolk.sums import NOBODY, bound, worth


def arm_bindings(behaviour, values, arm, letter):
    """The bindings of params to a state's values, then of the arm's names to the letter's."""
    own = bound((), names=behaviour[1], values=values)
    return bound(own, names=arm[1], values=letter[1])


def ticks_of(value):
    """How many ticks the worth of a late's sum is: 1 where it is less, or no number."""
    return value if is_above_nothing(value) else 1


def fitting(behaviour, values, letter, *, address=NOBODY):
    """The number of the first arm that fits, None where none does."""
    tag, told = letter
    for k, arm in enumerate(behaviour[2]):
        if arm[0] == tag and len(arm[1]) == len(told):
            bindings = arm_bindings(behaviour, values, arm, letter)
            if is_above_nothing(worth(arm[2], bindings=bindings, address=address)):
                return k
    return None


def waits_of(behaviour, values, *, address=NOBODY):
    """How many ticks it waits till it can be late, None where it has no late."""
    late = behaviour[3]
    if late is None:
        return None
    bindings = bound((), names=behaviour[1], values=values)
    return ticks_of(worth(late[0], bindings=bindings, address=address))
