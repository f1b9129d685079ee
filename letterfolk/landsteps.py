"""Steps of a land."""

from letterfolk.acting import ready
from letterfolk.errors import NoStep
from letterfolk.landgrounds import LandGround
from letterfolk.steps import do_step, is_step, lets_step


def _lets_packet(packets, k):
    if k >= len(packets):
        raise NoStep("packet")


def step(land, thing):
    """(land, events) behind a step, any thing."""
    if not is_step(thing):
        raise NoStep("shape")
    ground = LandGround(land)
    lets_step(ground, thing)
    if thing[0] == "come":
        _lets_packet(ground.wires, thing[1])
        ground.come(thing[1])
    elif thing[0] == "again":
        _lets_packet(ground.came, thing[1])
        ground.come_again(thing[1])
    else:
        do_step(ground, thing)
    return ground.told(), tuple(ground.events)


def ready_steps(land):
    """The acts of all who are ready, house by house, then what may come."""
    library, _, houses, _, wires, _ = land
    acts = [("act", h, n) for h in range(len(houses)) for n in ready(library, houses[h])]
    comes = [("come", k) for k in range(len(wires))]
    return (*acts, *comes)
