"""Steps of whose run a thing is the trace."""

from letterfolk.lands import land_of
from letterfolk.landsteps import step
from letterfolk.orders import Order
from letterfolk.tracechecker import lets_trace


def _step_of(place, given, wires):
    """The step of an input at a place (h, j), the first one of those done at once."""
    h, _ = place
    if given[0] == "given":
        return ("come", wires.index(given[1]))
    return (given[0], h, *given[1:])


def steps_for(trace, *, library, roots):
    """Steps of whose log this is the trace, any thing; else refused as the trace is."""
    lets_trace(trace, library=library, roots=roots)
    order = Order(trace)
    land, _ = land_of(library, roots)
    steps = []
    for group in order.groups:
        found = _step_of(group[0], order.input_at(group[0]), land[4])
        land, _ = step(land, found)
        steps.append(found)
    return tuple(steps)
