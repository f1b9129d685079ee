"""Houses with what goes between them, opened: what steps do, whether things go over wires or stand in rows."""

from letterfolk.acting import acted
from letterfolk.comings import delivered, parted_from, ticked, words_told
from letterfolk.ends import rooted
from letterfolk.houseloads import house_loaded
from letterfolk.houses import void_house


def _pair(a, b):
    return (min(a, b), max(a, b))


def posts_between(rows, a, b):
    """The posts, by pairs, of those rows that are between both houses, the lesser one a, either way, rising."""
    return [(sender, to) for sender, to in sorted(rows) if _pair(sender[1], to[1]) == (a, b)]


class Ground:
    """Houses, their roots and links; how things go between them a class below tells: by is "rows" or "tree"."""

    def __init__(self, library, roots, houses, links, by):
        self.library = library
        self.roots = list(roots)
        self.houses = list(houses)
        self.links = links
        self.by = by
        self.events = []

    def carry(self, sender, to, thing):
        """A thing goes on its way from post to post of two linked houses."""
        raise NotImplementedError("carry")

    def cut(self, a, b):
        """(from, to, things) that were on the way between both houses, and are so no more."""
        raise NotImplementedError("cut")

    def link_of(self, h, other):
        """The number of the link of both houses, None where they aren't linked."""
        link, up = self.links.get(_pair(h, other), (None, False))
        return link if up else None

    def is_linked(self, h, other):
        """Whether both houses are linked."""
        return self.link_of(h, other) is not None

    def linked_to(self, h):
        """The houses that are linked to this one."""
        return [other for other in range(len(self.houses)) if self.is_linked(h, other)]

    def keep(self, h, told):
        """The house as a deed told it, with its events; what goes out by it is told."""
        self.houses[h], events, outs = told
        self.events.extend(events)
        return outs

    def tell_words(self, h, thing):
        """A pair of words to all houses that are linked to this one."""
        for other in self.linked_to(h):
            self.carry(("house", h), ("house", other), thing)

    def send_back(self, h, sender, to, thing):
        """A thing for a house that isn't linked; what goes out as its sender hears of it is told."""
        word = thing[0]
        if word == "letter":
            self.events.append(("lost", to, sender, thing[2], "parted"))
        if word == "link":
            return self.keep(h, delivered(self.houses[h], to, sender, ("signal", "parted")))
        if word == "watch":
            return self.keep(h, delivered(self.houses[h], to, sender, ("down", "parted")))
        return ()

    def pack(self, h, outs):
        """What goes out of a house, one behind the other, each with all that comes of it ahead of the next."""
        waiting = list(outs)[::-1]
        while waiting:
            sender, to, thing = waiting.pop()
            if to is None:
                self.tell_words(h, thing)
            elif self.is_linked(h, to[1]):
                self.carry(sender, to, thing)
            else:
                waiting.extend(self.send_back(h, sender, to, thing)[::-1])

    def take(self, h, told):
        """The house as a deed told it, and what goes out by it packed."""
        self.pack(h, self.keep(h, told))

    def give(self, sender, to, thing):
        """A thing comes to its house."""
        h = to[1]
        if thing[0] == "word":
            self.take(h, words_told(self.houses[h], thing[1], thing[2], has=thing[3]))
        else:
            self.take(h, delivered(self.houses[h], sender, to, thing))

    def make_root(self, h):
        """The root of a house is made."""
        self.take(h, rooted(self.houses[h], self.roots[h]))

    def act(self, h, n):
        """Number n of a house does an act."""
        self.take(h, acted(self.library, self.houses[h], n, by=self.by))

    def tick(self, h):
        """The clock of a house goes on."""
        self.houses[h] = ticked(self.houses[h])
        self.events.append(("tick", h, self.houses[h][1]))

    def load(self, h, edition):
        """A house loads an edition."""
        house, root, events, outs = house_loaded(self.library, self.houses[h], edition, root=self.roots[h])
        self.roots[h] = root
        self.events.append(("loaded", h, edition))
        self.take(h, (house, events, outs))

    def separate(self, h, other):
        """Both houses are linked no more, and letters between them are lost."""
        pair = _pair(h, other)
        link = self.link_of(h, other)
        self.events.append(("parted", *pair, link))
        for sender, to, things in self.cut(*pair):
            for thing in things:
                if thing[0] == "letter":
                    self.events.append(("lost", to, sender, thing[2], "parted"))
        self.links[pair] = (link, False)

    def leave(self, h, other):
        """A house hears that the other one is no more linked to it."""
        house = self.houses[h]
        for word, address in self.houses[h][5]:
            if address[1] == other:
                house, _, _ = words_told(house, word, address, has=False)
        self.take(h, parted_from(house, other))

    def part(self, a, b):
        """Two houses part, the lesser one leaves first."""
        self.separate(a, b)
        low, high = _pair(a, b)
        self.leave(low, high)
        self.leave(high, low)

    def unite(self, h, other):
        """Both houses are linked by a new link."""
        pair = _pair(h, other)
        link = self.links[pair][0] + 1
        self.links[pair] = (link, True)
        self.events.append(("met", *pair, link))

    def greet(self, h, other):
        """A house tells the other one its own words."""
        for word, address in self.houses[h][5]:
            if address[1] == h:
                self.carry(("house", h), ("house", other), ("word", word, address, True))

    def meet(self, a, b):
        """Two houses meet, the lesser one tells its words first."""
        self.unite(a, b)
        low, high = _pair(a, b)
        self.greet(low, high)
        self.greet(high, low)

    def empty(self, h):
        """All folk of a house are gone, with the letters that they had."""
        _, clock, made, loaded, folk, _ = self.houses[h]
        self.events.append(("fell", h, tuple([("at", h, n) for n, _ in folk])))
        for n, life in folk:
            for sender, _, letter in life[1][1]:
                self.events.append(("lost", ("at", h, n), sender, letter, "fallen"))
        self.houses[h] = void_house(h, clock=clock, made=made, loaded=loaded)

    def fall(self, h):
        """A house falls, the others part from it, and its root is made anew."""
        self.empty(h)
        for other in self.linked_to(h):
            self.separate(h, other)
            self.leave(other, h)
        self.make_root(h)
