"""Steps by kind, whether they can be done, and those that are done alike in lands and in plain lands."""

from letterfolk.acting import is_ready
from letterfolk.errors import NoStep
from letterfolk.kinds import is_count

# How many numbers stand behind each word, and how many of them, the first ones, are those of houses.
NUMBERS = {"act": 2, "come": 1, "again": 1, "tick": 1, "part": 2, "meet": 2, "fall": 1, "load": 2}
HOUSES = {"act": 1, "come": 0, "again": 0, "tick": 1, "part": 2, "meet": 2, "fall": 1, "load": 1}


def is_step(thing):
    """Whether the thing is a step."""
    if not isinstance(thing, tuple) or not thing or not isinstance(thing[0], str):
        return False
    if NUMBERS.get(thing[0]) != len(thing) - 1:
        return False
    return all([is_count(number) for number in thing[1:]])


def _lets_houses(ground, step):
    houses = step[1:1 + HOUSES[step[0]]]
    if any([h >= len(ground.houses) for h in houses]):
        raise NoStep("house")
    if len(houses) == 2 and houses[0] == houses[1]:
        raise NoStep("house")


def lets_step(ground, step):
    """Refuse a step that the houses of the ground can't do, but a load, which refuses its edition itself."""
    _lets_houses(ground, step)
    word = step[0]
    if word == "act" and not is_ready(ground.library, ground.houses[step[1]], step[2], by=ground.by):
        raise NoStep("act")
    if word == "part" and not ground.is_linked(step[1], step[2]):
        raise NoStep("linked")
    if word == "meet" and ground.is_linked(step[1], step[2]):
        raise NoStep("linked")


def do_step(ground, step):
    """Do a step that isn't refused, and is none of what comes."""
    word = step[0]
    if word == "act":
        ground.act(step[1], step[2])
    elif word == "tick":
        ground.tick(step[1])
    elif word == "load":
        ground.load(step[1], step[2])
    elif word == "part":
        ground.part(step[1], step[2])
    elif word == "meet":
        ground.meet(step[1], step[2])
    else:
        ground.fall(step[1])
