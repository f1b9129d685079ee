"""What comes to a house from others: things, the parting, pairs of words; and ticks."""

from letterfolk.ends import settle
from letterfolk.homes import Home
from letterfolk.rising import with_one, without


def _link(home, sender, to):
    life = home.living(to)
    if life is None:
        home.outs.append((to, sender, ("signal", "gone")))
    else:
        life.has = with_one(life.has, sender)


def _watch(home, sender, to):
    life = home.living(to)
    if life is None:
        home.outs.append((to, sender, ("down", "gone")))
    else:
        life.known = with_one(life.known, sender)


def _unlink(home, sender, to):
    life = home.living(to)
    if life is not None:
        life.has = without(life.has, sender)


def delivered(house, sender, to, thing):
    """(house, events, outs) of a thing that comes to one of this house from one of another."""
    home = Home(house)
    word = thing[0]
    if word == "letter":
        # A letter of no edition is from a house itself, not from who stands as its sender.
        home.give(None if thing[1] is None else sender, to, thing[1], thing[2])
    elif word == "link":
        _link(home, sender, to)
    elif word == "watch":
        _watch(home, sender, to)
    elif word == "unlink":
        _unlink(home, sender, to)
    else:
        settle(home, [(word, to, sender, thing[1])])
    return home.told()


def _there(addresses, other):
    return [address for address in addresses if address[1] == other]


def parted_from(house, other):
    """(house, events, outs) of parting from the other house."""
    home = Home(house)
    for life in list(home.folk.values()):
        life.known = tuple([address for address in life.known if address[1] != other])
    numbers = sorted(home.folk)
    for n in numbers:
        life = home.folk.get(n)
        if life is not None:
            signals = [("signal", home.address_of(n), address, "parted") for address in _there(life.has, other)]
            downs = [("down", home.address_of(n), address, "parted") for address in _there(life.watches, other)]
            settle(home, [*signals, *downs])
    return home.told()


def words_told(house, word, address, *, has=True):
    """(house, events, outs) of being told that one of another house has the word, or hasn't."""
    home = Home(house)
    pair = (word, address)
    home.words = with_one(home.words, pair) if has else without(home.words, pair)
    return home.told()


def ticked(house):
    """The house one tick later."""
    h, clock, *others = house
    return (h, clock + 1, *others)
