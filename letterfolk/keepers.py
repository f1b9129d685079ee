"""Plans and keepers by kind; by how many things they have they are told from states, whatever these are called."""

from letterfolk.editions import is_edition
from letterfolk.kinds import are_values, is_above_nothing, is_count

WAYS = ("one", "all", "rest")
PLAN_THINGS = 5
KEEPER_THINGS = 7


def plans(row):
    """Whether a row, no None, is a plan, and no state."""
    return len(row) == PLAN_THINGS


def keeps(what):
    """Whether what a life has is a keeper's value, and no state."""
    return len(what) == KEEPER_THINGS


def _is_state(library, thing):
    if not isinstance(thing, tuple) or len(thing) != 3:
        return False
    name, values, edition = thing
    if not is_edition(library, edition) or not are_values(values):
        return False
    return (name, len(values)) in [(behaviour[0], len(behaviour[1])) for behaviour in library[edition][0]]


def is_row(library, thing):
    """Whether the thing is a row: a state, a plan, or None."""
    return thing is None or _is_state(library, thing) or is_plan(library, thing)


def is_plan(library, thing):
    """Whether the thing is a plan: ("plan", way, most, within, rows)."""
    if not isinstance(thing, tuple) or len(thing) != PLAN_THINGS:
        return False
    word, way, most, within, rows = thing
    if word != "plan" or way not in WAYS or not is_count(most) or not is_above_nothing(within):
        return False
    return isinstance(rows, tuple) and all([is_row(library, row) for row in rows])
