"""Plain papers: the plain steps that come to the same as the steps of a run."""

from letterfolk.landruns import run


def _plain_steps(step, events):
    """The plain steps of one step and its events."""
    if step[0] in ("come", "again"):
        given = [event[1] for event in events if event[0] == "given"]
        return tuple([("come", packet[1], packet[2]) for packet in given])
    if step[0] == "act" and not events:
        # It only looked on from its mark, and marks are none in the plain meaning.
        return ()
    return (step,)


def plain_paper(land, steps):
    """A plain paper of the land and the steps, which are all done."""
    _, log = run(land, steps, most=len(steps))
    return tuple([_plain_steps(step, events) for step, events in log])
