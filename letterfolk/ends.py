"""Who begins and who ends in a house, and all that comes of it there.

What comes of an end is a row of deeds, done one by one, each with all that comes of it ahead of the next; they wait on
a pile, not in calls within one another, as rings of links may be long.
"""

from letterfolk.answers import answer, falling, placed
from letterfolk.homes import Home
from letterfolk.houses import life_of
from letterfolk.keepers import keeps
from letterfolk.rising import without


def _answered(home, address, told, whose):
    """The deeds of a keeper that was told (keeper, deeds), whose the one for whom it falls."""
    life = home.living(address)
    life.what, own = told
    deeds = []
    for deed in own:
        if deed[0] == "end":
            life.has = without(life.has, deed[1])
            deeds.append(("end", deed[1], deed[2], address))
        elif deed[0] == "begin":
            deeds.append(("begin", address, deed[1]))
        else:
            deeds.append(("leave", address, deed[1], whose))
    return deeds


def _end(home, deed):
    """One ends, if it lives; a keeper does its own deeds ahead."""
    _, address, reason, whose = deed
    life = home.living(address)
    if life is None:
        return []
    if keeps(life.what):
        return _answered(home, address, falling(life.what, reason), whose)
    return [("leave", address, reason, whose)]


def _leave(home, deed):
    """One lives no more, if it still lives, and signals and downs go to those that it has and knows."""
    _, address, reason, whose = deed
    life = home.living(address)
    if life is None:
        return []
    home.events.append(("ended", address, reason, whose))
    del home.folk[address[2]]
    home.drop_words(address)
    for sender, _, letter in life.mails:
        home.events.append(("lost", address, sender, letter, "ended"))
    signals = [("signal", to, address, reason) for to in life.has]
    downs = [("down", to, address, reason) for to in life.known]
    return [*signals, *downs]


def _signal(home, deed):
    """A signal is heard here by who has its sender, or goes out."""
    _, to, sender, reason = deed
    if not home.has_here(to):
        home.outs.append((sender, to, ("signal", reason)))
        return []
    life = home.living(to)
    if life is None or sender not in life.has:
        return []
    life.has = without(life.has, sender)
    if keeps(life.what):
        return _answered(home, to, answer(life.what, sender, reason, clock=home.clock), sender)
    if life.traps:
        home.give(None, to, None, ("exit", (sender, reason)))
        return []
    return [] if reason == "done" else [("end", to, reason, sender)]


def _down(home, deed):
    """A down is heard here by who watches its sender, or goes out."""
    _, to, sender, reason = deed
    if not home.has_here(to):
        home.outs.append((sender, to, ("down", reason)))
        return []
    life = home.living(to)
    if life is not None and sender in life.watches:
        life.watches = without(life.watches, sender)
        home.give(None, to, None, ("down", (sender, reason)))
    return []


def _begin(home, deed):
    """A keeper that still lives begins a child anew, by the row that it has now."""
    _, keeper, k = deed
    life = home.living(keeper)
    if life is None:
        return []
    address = home.address_of(home.made)
    home.events.append(("anew", keeper, k, address))
    row = life.what[4][k]
    life.what = placed(life.what, k, address)
    home.begin(row, keeper)
    return []


DEEDS = {"end": _end, "leave": _leave, "signal": _signal, "down": _down, "begin": _begin}


def settle(home, deeds):
    """Do the deeds one by one, each with all that comes of it in this house ahead of the next."""
    waiting = list(deeds)[::-1]
    while waiting:
        deed = waiting.pop()
        action = DEEDS[deed[0]]
        waiting.extend(action(home, deed)[::-1])


def rooted(house, root):
    """(house, events, outs) of the root, a state or a plan, begun by nobody; of None nobody is begun."""
    home = Home(house)
    if root is not None:
        home.begin(root)
    return home.told()


def ended(house, number, reason, *, whose=None):
    """(house, events, outs) of who lives by the number, any thing, ending by the reason."""
    life_of(house, number)
    home = Home(house)
    settle(home, [("end", home.address_of(number), reason, whose)])
    return home.told()
