"""Steps of a plain land."""

from letterfolk.errors import NoStep
from letterfolk.packets import is_post
from letterfolk.plaingrounds import PlainGround
from letterfolk.steps import do_step, is_step, lets_step

OF_LANDS = ("come", "again")


def _is_come(thing):
    """Whether the thing is ("come", from, to)."""
    if not isinstance(thing, tuple) or len(thing) != 3 or thing[0] != "come":
        return False
    return is_post(thing[1]) and is_post(thing[2])


def plain_step(plain, thing):
    """(plain land, events) behind a plain step, any thing."""
    ground = PlainGround(plain)
    if _is_come(thing):
        if not ground.has_row(thing[1], thing[2]):
            raise NoStep("row")
        ground.come(thing[1], thing[2])
    elif is_step(thing) and thing[0] not in OF_LANDS:
        lets_step(ground, thing)
        do_step(ground, thing)
    else:
        raise NoStep("shape")
    return ground.told(), tuple(ground.events)
