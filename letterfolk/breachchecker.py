"""Whether any thing is a breach of ticks."""

from letterfolk.errors import NoPaper
from letterfolk.kinds import is_count, is_pair


def lets_breach(ticks, thing, *, most, within):
    """How many ticks the breach has, any thing; else refused with what is wrong first."""
    if not is_pair(thing) or not is_count(thing[0]) or not is_count(thing[1]):
        raise NoPaper("shape", -1)
    first, last = thing
    if first > last or last >= len(ticks):
        raise NoPaper("places", -1)
    many = last - first + 1
    if many <= most:
        raise NoPaper("many", -1)
    if ticks[last] - ticks[first] >= within:
        raise NoPaper("within", -1)
    return many
