"""Which behaviours hang on another one."""

from letterfolk.trees import namings


def _namers(code):
    """For each name the names of those behaviours that name it."""
    table = {}
    for behaviour in code:
        for name, _ in namings(behaviour):
            table.setdefault(name, []).append(behaviour[0])
    return table


def hang_on(code, name):
    """The names of all behaviours that hang on the one of this name, its own too."""
    namers = _namers(code)
    found = {name: True}
    waiting = [name]
    while waiting:
        named = waiting.pop()
        for namer in namers.get(named, []):
            if namer not in found:
                found[namer] = True
                waiting.append(namer)
    return tuple(sorted(found))
