"""Rows begun in a house: which lives come of them."""

from letterfolk.keepers import plans


def _keeper_begun(plan, address, by):
    """(lives, next) of a keeper at this address, and of all that its rows begin."""
    _, house, n = address
    _, way, most, within, rows = plan
    behind = n + 1
    now = []
    lives = []
    for row in rows:
        if row is None:
            now.append(None)
            continue
        now.append(("at", house, behind))
        more, behind = begun(row, house=house, n=behind, by=address)
        lives.extend(more)
    keeper = ("keeper", way, most, within, rows, tuple(now), ())
    return ((address, keeper, by), *lives), behind


def begun(row, *, house, n, by=None):
    """(lives, next): the lives of a row, no None, from the number n on, and the number behind."""
    address = ("at", house, n)
    if plans(row):
        return _keeper_begun(row, address, by)
    return ((address, row, by),), n + 1
