"""What keepers do: ("keeper", way, most, within, rows, now, past), told that a child ended, or to fall."""

from letterfolk.kinds import is_address


def is_child(keeper, address):
    """Whether the address is that of a child that lives."""
    return is_address(address) and address in keeper[5]


def _with_now(keeper, now):
    return (*keeper[:5], tuple(now), keeper[6])


def placed(keeper, k, address):
    """The keeper's value with the address as that of child k."""
    now = list(keeper[5])
    now[k] = address
    return _with_now(keeper, now)


def _shut(keeper, places):
    """(keeper, ends): the children at these places, those that live, ended from the last row on."""
    now = list(keeper[5])
    ends = []
    for k in sorted(places, reverse=True):
        if now[k] is not None:
            ends.append(("end", now[k], "shut"))
            now[k] = None
    return _with_now(keeper, now), tuple(ends)


def falling(keeper, reason):
    """(keeper, deeds) of one that falls by the reason."""
    told, ends = _shut(keeper, list(range(len(keeper[5]))))
    return told, (*ends, ("fall", reason))


def _counted(keeper, clock):
    """The keeper with the clock behind those ticks of its past that still count."""
    within, past = keeper[3], keeper[6]
    return (*keeper[:6], (*[tick for tick in past if clock - tick < within], clock))


def _begun_again(keeper, k):
    """(keeper, deeds): child k begins anew, and by the way of the keeper others with it."""
    _, way, _, _, rows, now, _ = keeper
    if way == "one":
        return keeper, (("begin", k),)
    first = 0 if way == "all" else k + 1
    others = [j for j in range(first, len(now)) if now[j] is not None]
    told, ends = _shut(keeper, others)
    begins = [("begin", j) for j in sorted([k, *others]) if rows[j] is not None]
    return told, (*ends, *begins)


def answer(keeper, address, reason, *, clock):
    """(keeper, deeds) of one that hears that the one of the address ended by the reason."""
    if not is_child(keeper, address):
        return (keeper, ()) if reason == "done" else falling(keeper, reason)
    k = keeper[5].index(address)
    left = placed(keeper, k, None)
    if reason == "done" or keeper[4][k] is None:
        return left, ()
    if reason == "old":
        return left, (("begin", k),)
    counted = _counted(left, clock)
    if len(counted[6]) > counted[2]:
        return falling(counted, "beyond")
    return _begun_again(counted, k)
