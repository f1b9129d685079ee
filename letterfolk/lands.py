"""Lands at the beginning."""

from letterfolk.houses import void_house
from letterfolk.landgrounds import LandGround


def land_of(library, roots):
    """(land, events) of the beginning: houses linked all to all, each with its root."""
    many = len(roots)
    houses = tuple([void_house(h) for h in range(many)])
    pairs = tuple([(a, b, 0, True, ()) for a in range(many) for b in range(a + 1, many)])
    ground = LandGround((library, tuple(roots), houses, pairs, (), ()))
    for h in range(many):
        ground.make_root(h)
    return ground.told(), tuple(ground.events)
