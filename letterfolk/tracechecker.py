"""Whether any thing is the trace of a run."""

from letterfolk.alones import Alone, is_input
from letterfolk.errors import NoStep, NoTrace
from letterfolk.kinds import is_pair
from letterfolk.lands import land_of
from letterfolk.orders import Order, fellow_rows, packed_places


def _is_same(one, other):
    """Whether the other, any thing, is the one, of tuples, texts, numbers, truths and None; True is no 1."""
    if isinstance(one, tuple):
        if not isinstance(other, tuple) or len(one) != len(other):
            return False
        return all([_is_same(part, more) for part, more in zip(one, other)])
    return isinstance(one, bool) == isinstance(other, bool) and one == other


def _is_view(library, thing):
    if not isinstance(thing, tuple) or not all([is_pair(row) for row in thing]):
        return False
    return all([is_input(library, given) and isinstance(events, tuple) for given, events in thing])


def _lets_shape(thing, library, many):
    if not isinstance(thing, tuple) or len(thing) != many:
        raise NoTrace("shape", -1)
    if not all([_is_view(library, view) for view in thing]):
        raise NoTrace("shape", -1)


def _lets_view(view, alone):
    for j, (given, events) in enumerate(view):
        try:
            own = alone.do(given)
        except NoStep:
            raise NoTrace("input", (alone.h, j)) from None
        if not _is_same(own, events):
            raise NoTrace("events", (alone.h, j))


def _lets_sent(views):
    packed = packed_places(views)
    for h, view in enumerate(views):
        for j, (given, _) in enumerate(view):
            if given[0] == "given" and given[1] not in packed:
                raise NoTrace("sent", (h, j))


def _lets_links(views):
    for a in range(len(views)):
        for b in range(a + 1, len(views)):
            if fellow_rows(views, a, b) is None:
                raise NoTrace("links", (a, b))


def lets_trace(thing, *, library, roots):
    """True where the thing is the trace of a run of these, else refused with what is wrong first."""
    _lets_shape(thing, library, len(roots))
    first, _ = land_of(library, roots)
    for h, view in enumerate(thing):
        _lets_view(view, Alone(first, h))
    _lets_sent(thing)
    _lets_links(thing)
    order = Order(thing)
    if not order.is_whole():
        raise NoTrace("order", tuple(order.heads))
    return True
