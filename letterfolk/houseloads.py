"""A house loads an edition: rows are led, and those whose edition is loaded no more leave."""

from letterfolk.editions import load
from letterfolk.ends import settle
from letterfolk.homes import Home
from letterfolk.keepers import keeps
from letterfolk.rowleading import row_led


def _lead_keeper(library, home, n):
    life = home.folk[n]
    rows = tuple([row_led(library, home.loaded, row) for row in life.what[4]])
    if rows != life.what[4]:
        life.what = (*life.what[:4], rows, *life.what[5:])
        home.events.append(("led", home.address_of(n), rows))


def house_loaded(library, house, edition, *, root=None):
    """(house, root, events, outs) of loading the edition, any thing."""
    home = Home(house)
    home.loaded = load(library, home.loaded, edition)
    numbers = sorted(home.folk)
    for n in numbers:
        if keeps(home.folk[n].what):
            _lead_keeper(library, home, n)
    old = [n for n in numbers if not keeps(home.folk[n].what) and home.folk[n].what[2] < home.loaded[0]]
    settle(home, [("end", home.address_of(n), "old", None) for n in old])
    told, events, outs = home.told()
    return told, row_led(library, home.loaded, root), events, outs
