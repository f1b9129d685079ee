"""Ticks, none less than the one ahead: how near they stand, and where too many of them do."""


def spaced(ticks, *, within):
    """For each tick how many of those up to it, itself too, it is less than within above."""
    told = []
    for k, tick in enumerate(ticks):
        near = [other for other in ticks[:k + 1] if tick - other < within]
        told.append(len(near))
    return tuple(told)


def breach_of(ticks, *, most, within):
    """(first, last), the places of more than most ticks that stand within; None where there are none."""
    for last, many in enumerate(spaced(ticks, within=within)):
        if many > most:
            return (last - many + 1, last)
    return None
