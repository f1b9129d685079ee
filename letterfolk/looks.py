"""Looking at code: whether a thing is code, and what is wrong with it first."""

from letterfolk.errors import NoCode
from letterfolk.trees import is_behaviour, namings


def _lets_shape(thing):
    if not isinstance(thing, tuple) or not thing:
        raise NoCode("shape", -1)
    if not all([is_behaviour(behaviour) for behaviour in thing]):
        raise NoCode("shape", -1)


def _lets_rising(code):
    for k in range(1, len(code)):
        if code[k][0] <= code[k - 1][0]:
            raise NoCode("rising", k)


def _lets_namings(code):
    params = {behaviour[0]: len(behaviour[1]) for behaviour in code}
    for k, behaviour in enumerate(code):
        for j, (name, many) in enumerate(namings(behaviour)):
            if name not in params:
                raise NoCode("there", (k, j))
            if params[name] != many:
                raise NoCode("many", (k, j))


def lets_code(thing):
    """True where the thing is code, else refused with what is wrong first."""
    _lets_shape(thing)
    _lets_rising(thing)
    _lets_namings(thing)
    return True


def is_code(thing):
    """Whether the thing is code."""
    try:
        return lets_code(thing)
    except NoCode:
        return False


def behaviour_at(code, name):
    """The behaviour of this name, any thing, in the code."""
    for behaviour in code:
        if behaviour[0] == name:
            return behaviour
    raise NoCode("there", name)
