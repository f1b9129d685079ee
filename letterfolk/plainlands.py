"""The plain meaning of a land: no marks, no packets, but things on the way in rows."""

from letterfolk.wires import things_on_way


def _unmarked(life):
    what, mailbox, *others = life
    return (what, (0, mailbox[1]), *others)


def _plain_house(house):
    h, clock, made, loaded, folk, words = house
    return (h, clock, made, loaded, tuple([(n, _unmarked(life)) for n, life in folk]), words)


def plain_of(land):
    """The plain land of a land."""
    library, roots, houses, pairs, _, _ = land
    plain_houses = tuple([_plain_house(house) for house in houses])
    plain_pairs = tuple([pair[:4] for pair in pairs])
    return (library, roots, plain_houses, plain_pairs, things_on_way(land))
