"""Runs of a land: steps one behind the other."""

from letterfolk.landsteps import ready_steps, step

LIMIT = 200


def run(land, steps, *, most=LIMIT):
    """(land, log) behind the first steps, so many at the most."""
    log = []
    for thing in steps[:most]:
        land, events = step(land, thing)
        log.append((thing, events))
    return land, tuple(log)


def until_quiet(land, *, by=(), most=LIMIT):
    """(land, log, truth) of ready steps, chosen by the numbers, till none is left or so many were done."""
    log = []
    while len(log) < most:
        choices = ready_steps(land)
        if not choices:
            break
        number = by[len(log)] if len(log) < len(by) else 0
        chosen = choices[number % len(choices)]
        land, events = step(land, chosen)
        log.append((chosen, events))
    return land, tuple(log), not ready_steps(land)
