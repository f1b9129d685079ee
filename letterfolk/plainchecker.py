"""Whether any thing is a plain paper of a land and steps."""

from letterfolk.errors import NoPaper, NoStep
from letterfolk.landsteps import step
from letterfolk.plainlands import plain_of
from letterfolk.plainsteps import plain_step


def _lets_shape(thing, many):
    if not isinstance(thing, tuple) or len(thing) != many:
        raise NoPaper("shape", -1)
    if not all([isinstance(row, tuple) for row in thing]):
        raise NoPaper("shape", -1)


def _plain_behind(plain, row, k):
    """The plain land behind the plain steps of step k."""
    for j, thing in enumerate(row):
        try:
            plain, _ = plain_step(plain, thing)
        except NoStep:
            raise NoPaper("step", (k, j)) from None
    return plain


def _lands_behind(land, steps):
    """The land behind each step."""
    found = []
    for thing in steps:
        land, _ = step(land, thing)
        found.append(land)
    return found


def lets_plain(land, steps, thing):
    """How many plain steps the paper has, any thing; else refused with what is wrong first."""
    behind = _lands_behind(land, steps)
    _lets_shape(thing, len(steps))
    plain = plain_of(land)
    for k, row in enumerate(thing):
        plain = _plain_behind(plain, row, k)
        if plain != plain_of(behind[k]):
            raise NoPaper("land", k)
    return sum([len(row) for row in thing])
