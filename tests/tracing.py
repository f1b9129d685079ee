"""What the tests of traces hand in: traces of runs, and views of houses that go alone by told inputs."""

from letterfolk.alones import Alone
from letterfolk.landruns import run
from letterfolk.lands import land_of
from letterfolk.traces import trace_of
from making import replaced


def trace_behind(library, roots, *steps):
    """The trace of these steps from the first land on."""
    land, _ = land_of(library, roots)
    _, log = run(land, steps, most=len(steps))
    return trace_of(log, houses=len(roots))


def told_alone(library, roots, *inputs):
    """A view for each house, of these inputs and what comes of each where the house goes alone by them."""
    first, _ = land_of(library, roots)
    views = []
    for h, own in enumerate(inputs):
        alone = Alone(first, h)
        views.append(tuple([(given, alone.do(given)) for given in own]))
    return tuple(views)


def with_input(trace, h, j, given):
    """The trace, but with this input at (h, j)."""
    return replaced(trace, (h, j, 0), given)


def with_events(trace, h, j, events):
    """The trace, but with these events at (h, j)."""
    return replaced(trace, (h, j, 1), events)


def with_view(trace, h, view):
    """The trace, but with this view of house h."""
    return replaced(trace, (h,), view)
