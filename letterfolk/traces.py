"""The trace of a log: for each house what came to it, with the events that it had of it."""


def _owners(event):
    """The houses whose the event is, of those of a part, a meet or a fall."""
    word = event[0]
    if word in ("parted", "met"):
        return event[1:3]
    if word == "fell":
        return (event[1],)
    if word == "packed":
        sender = event[1][1]
        return (sender[1],)
    if word == "lost" and event[4] == "parted":
        return ()
    return (event[1][1],)


def _own(events, h):
    return tuple([event for event in events if h in _owners(event)])


def _left_by(h, events):
    """The other houses that part from the house that falls."""
    return [other for event in events if event[0] == "parted" for other in event[1:3] if other != h]


def _given_rows(events):
    """(house, (input, events)) of each packet that a house takes; what came ahead of the first is in no view."""
    rows = []
    for event in events:
        if event[0] == "given":
            rows.append((event, []))
        elif rows:
            rows[-1][1].append(event)
    told = []
    for event, behind in rows:
        to = event[1][2]
        told.append((to[1], (event, tuple(behind))))
    return told


def _shared_rows(inputs, events):
    """(house, (input, events)), with those events alone that are the house's."""
    return [(h, (come, _own(events, h))) for h, come in inputs]


def _rows_of(step, events):
    """(house, (input, events)) of each house to which the step brings an input."""
    word, h = step[0], step[1]
    if word in ("come", "again"):
        return _given_rows(events)
    if word in ("part", "meet"):
        other = step[2]
        return _shared_rows([(h, (word, other)), (other, (word, h))], events)
    if word == "fall":
        left = [(other, ("part", h)) for other in _left_by(h, events)]
        return _shared_rows([(h, ("fall",)), *left], events)
    return [(h, ((word, *step[2:]), events))]


def trace_of(log, *, houses):
    """The trace of the log of so many houses: a view for each, of pairs (input, events)."""
    views = [[] for _ in range(houses)]
    for step, events in log:
        for h, row in _rows_of(step, events):
            views[h].append(row)
    return tuple([tuple(view) for view in views])
