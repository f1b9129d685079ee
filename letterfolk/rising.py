"""Rising tuples, in which nothing stands twice."""


def with_one(things, thing):
    """The rising tuple with the thing in it, too."""
    return things if thing in things else tuple(sorted([*things, thing]))


def without(things, thing):
    """The rising tuple without the thing."""
    return tuple([one for one in things if one != thing])
