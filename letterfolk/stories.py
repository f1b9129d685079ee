"""What one did and was told, from a trace alone."""

from letterfolk.errors import NoFolk
from letterfolk.kinds import is_address
from letterfolk.lands import land_of


def _events_of(trace, address, library, roots):
    """The events of the address's house, those of the beginning ahead."""
    _, first = land_of(library, roots)
    return [*first, *[event for _, events in trace[address[1]] for event in events]]


def _states_of(own):
    states = []
    for event in own:
        if event[0] == "made":
            states.append(event[3])
        if event[0] in ("went", "led"):
            states.append(event[2])
    return tuple(states)


def _end_of(events, address):
    """(reason, whose) as it ended; None where it didn't."""
    for event in events:
        if event[0] == "ended" and event[1] == address:
            return event[2:]
        if event[0] == "fell" and address in event[2]:
            return ("fallen", None)
    return None


def story_of(trace, address, *, library, roots):
    """(by, states, taken, told, end) of the address, any thing, in the trace of a run."""
    if not is_address(address) or address[1] >= len(trace):
        raise NoFolk(address)
    events = _events_of(trace, address, library, roots)
    own = [event for event in events if event[1] == address]
    makers = [event[2] for event in own if event[0] == "made"]
    if not makers:
        raise NoFolk(address)
    taken = tuple([event[2:] for event in own if event[0] == "took"])
    told = tuple([event[2] for event in own if event[0] == "told"])
    return (makers[0], _states_of(own), taken, told, _end_of(events, address))
