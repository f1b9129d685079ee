"""Points 55 and 59 to 62 told plainly once more, by the deeds of houses, and compared on made-up runs."""

import unittest

from letterfolk.acting import acted
from letterfolk.comings import delivered, parted_from, ticked, words_told
from letterfolk.ends import rooted
from letterfolk.houseloads import house_loaded
from letterfolk.houses import void_house
from letterfolk.lands import land_of
from letterfolk.wires import things_on_way
from living import Lively


class Telling:
    """A land by dicts and lists; each deed is told as the document has it."""

    def __init__(self, land):
        self.library, roots, houses, pairs, wires, came = land
        self.roots, self.houses, self.wires, self.came = list(roots), list(houses), list(wires), list(came)
        self.pairs = {(a, b): [link, up, {row[:2]: [row[2], row[3], dict(row[4])] for row in rows}] for a, b, link, up, rows in pairs}
        self.events = []

    def land(self):
        pairs = []
        for (a, b), (link, up, rows) in sorted(self.pairs.items()):
            told = [(*posts, sent, given, tuple(sorted(kept.items()))) for posts, (sent, given, kept) in sorted(rows.items())]
            pairs.append((a, b, link, up, tuple(told)))
        return (self.library, tuple(self.roots), tuple(self.houses), tuple(pairs), tuple(self.wires), tuple(self.came))

    def pair(self, h, other):
        return self.pairs.get((min(h, other), max(h, other)), [None, False, {}])

    def send(self, sender, to, thing):
        link, _, rows = self.pair(sender[1], to[1])
        row = rows.setdefault((sender, to), [0, 0, {}])
        self.wires.append((link, sender, to, row[0], thing))
        self.events.append(("packed", self.wires[-1]))
        row[0] += 1

    def turn(self, h, told):
        self.houses[h], events, outs = told
        self.events += events
        return outs

    def pack(self, h, outs):
        for sender, to, thing in outs:
            if thing[0] == "word":
                for other in range(len(self.houses)):
                    if self.pair(h, other)[1]:
                        self.send(("house", h), ("house", other), thing)
            elif self.pair(h, to[1])[1]:
                self.send(sender, to, thing)
            elif thing[0] == "letter":
                self.events.append(("lost", to, sender, thing[2], "parted"))
            elif thing[0] in ("link", "watch"):
                heard = {"link": "signal", "watch": "down"}[thing[0]]
                self.pack(h, self.turn(h, delivered(self.houses[h], to, sender, (heard, "parted"))))

    def deed(self, h, told):
        self.pack(h, self.turn(h, told))

    def act(self, h, n):
        self.deed(h, acted(self.library, self.houses[h], n))

    def tick(self, h):
        self.houses[h] = ticked(self.houses[h])
        self.events.append(("tick", h, self.houses[h][1]))

    def load(self, h, edition):
        house, self.roots[h], events, outs = house_loaded(self.library, self.houses[h], edition, root=self.roots[h])
        self.events.append(("loaded", h, edition))
        self.deed(h, (house, events, outs))

    def come(self, k):
        self.came.append(self.wires.pop(k))
        self.look(self.came[-1])

    def again(self, k):
        self.look(self.came[k])

    def look(self, packet):
        link, sender, to, number, thing = packet
        now, up, rows = self.pair(sender[1], to[1])
        if not up or link != now:
            self.events.append(("came", packet, "elder"))
            return
        row = rows[(sender, to)]
        if number < row[1] or number in row[2]:
            self.events.append(("came", packet, "again"))
            return
        row[2][number] = thing
        self.events.append(("came", packet, "kept" if number > row[1] else "taken"))
        while row[1] in row[2]:
            thing = row[2].pop(row[1])
            self.events.append(("given", (link, sender, to, row[1], thing)))
            row[1] += 1
            house = self.houses[to[1]]
            if thing[0] == "word":
                self.deed(to[1], words_told(house, thing[1], thing[2], has=thing[3]))
            else:
                self.deed(to[1], delivered(house, sender, to, thing))

    def unlink(self, a, b):
        a, b = sorted((a, b))
        on_way = [row for row in things_on_way(self.land()) if {row[0][1], row[1][1]} == {a, b}]
        self.events.append(("parted", a, b, self.pair(a, b)[0]))
        self.pair(a, b)[1:] = [False, {}]
        for sender, to, things in on_way:
            for thing in things:
                if thing[0] == "letter":
                    self.events.append(("lost", to, sender, thing[2], "parted"))

    def leave(self, h, other):
        house = self.houses[h]
        words = tuple([pair for pair in house[5] if pair[1][1] != other])
        self.deed(h, parted_from((*house[:5], words), other))

    def part(self, a, b):
        self.unlink(a, b)
        self.leave(min(a, b), max(a, b))
        self.leave(max(a, b), min(a, b))

    def meet(self, a, b):
        a, b = sorted((a, b))
        pair = self.pair(a, b)
        pair[0], pair[1] = pair[0] + 1, True
        self.events.append(("met", a, b, pair[0]))
        for h, other in ((a, b), (b, a)):
            for word, address in self.houses[h][5]:
                if address[1] == h:
                    self.send(("house", h), ("house", other), ("word", word, address, True))

    def fall(self, h):
        _, clock, made, loaded, folk, _ = self.houses[h]
        self.events.append(("fell", h, tuple([("at", h, n) for n, _ in folk])))
        self.events += [("lost", ("at", h, n), sender, letter, "fallen") for n, life in folk for sender, _, letter in life[1][1]]
        self.houses[h] = void_house(h, clock=clock, made=made, loaded=loaded)
        for other in range(len(self.houses)):
            if self.pair(h, other)[1]:
                self.unlink(h, other)
                self.leave(other, h)
        if self.roots[h] is not None:
            self.deed(h, rooted(self.houses[h], self.roots[h]))


class MadeUp(unittest.TestCase):
    def test_each_step(self):
        maker = Lively(60)
        counts = {}
        for seed in range(60):
            maker.houses = 1 + seed % 3
            library = maker.library(3)
            land, _ = land_of(library, maker.roots(library))
            steps, lands, log = maker.steps(land, 80)
            for k, (word, *numbers) in enumerate(steps):
                telling = Telling(lands[k])
                getattr(telling, word)(*numbers)
                self.assertEqual(tuple(telling.events), log[k][1])
                self.assertEqual(telling.land(), lands[k + 1])
                counts[word] = counts.get(word, 0) + 1
        self.assertEqual(len(counts), 8)
        self.assertGreater(min(counts.values()), 20)


if __name__ == "__main__":
    unittest.main()
