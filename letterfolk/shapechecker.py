"""Whether any thing is the shape of an address, and all stands: the keepers and their children have one another."""

from letterfolk.errors import NoPaper
from letterfolk.keepers import keeps
from letterfolk.kinds import is_address, is_pair
from letterfolk.shapes import by_address


def _is_shape(thing):
    if not is_pair(thing) or not is_address(thing[0]):
        return False
    parts = thing[1]
    if parts is None:
        return True
    return isinstance(parts, tuple) and all([part is None or _is_shape(part) for part in parts])


def _parts_stand(what, parts):
    """Whether parts are such as what has them: one for each child that lives, None for each other row."""
    if not keeps(what):
        return parts is None
    now = what[5]
    if parts is None or len(parts) != len(now):
        return False
    return all([(part is None) == (child is None) for part, child in zip(parts, now)])


def _lets(lives, shape, asked, keeper):
    """How many lives the shape of the one asked for has, keeper the address of its keeper, or None."""
    address, parts = shape
    if address != asked:
        raise NoPaper("who", address)
    if address not in lives:
        raise NoPaper("lives", address)
    what, has = lives[address]
    if keeper is not None and (keeper not in has or address not in lives[keeper][1]):
        raise NoPaper("has", address)
    if not _parts_stand(what, parts):
        raise NoPaper("parts", address)
    if parts is None:
        return 1
    return 1 + sum([
        _lets(lives, part, child, address) for part, child in zip(parts, what[5]) if part is not None])


def lets_shape(sheet, address, thing):
    """How many lives the thing has, the shape of the address, any things; else refused with what is wrong first."""
    if not _is_shape(thing):
        raise NoPaper("shape", -1)
    # What only equals an address, such as one with True in it, asks for nobody.
    asked = address if is_address(address) else None
    return _lets(by_address(sheet), thing, asked, None)
