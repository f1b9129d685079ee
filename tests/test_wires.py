"""Points 53 and 56: what is on the way between linked houses."""

import unittest

from founding import LIBRARY, Founder, at
from letterfolk.houses import void_house
from letterfolk.wires import things_on_way
from making import kinds_of

A, B, C = at(0), at(0, 1), at(0, 2)
HOUSE = [("house", h) for h in range(3)]


def letter(k):
    return ("letter", 0, ("hit", (k,)))


def land(pairs, wires=(), came=()):
    """A land of three houses of nobody."""
    return (LIBRARY, (None,) * 3, tuple([void_house(h) for h in range(3)]), tuple(pairs), tuple(wires), tuple(came))


def pair(*rows, a=0, b=1, link=0, up=True):
    return (a, b, link, up, tuple(rows))


class ThingsOnWay(unittest.TestCase):
    def check(self, pairs, wires, *told):
        self.assertEqual(things_on_way(land(pairs, wires)), told)

    def test_none(self):
        self.assertEqual(things_on_way((LIBRARY, (None,), (void_house(0),), (), (), ())), ())
        self.check((pair(), pair(b=2), pair(a=1, b=2)), ())

    def test_one_on_the_wires(self):
        self.check((pair((A, B, 1, 0, ())),), ((0, A, B, 0, letter(7)),), (A, B, (letter(7),)))
        self.check((pair((B, A, 5, 4, ())),), ((0, B, A, 4, letter(7)),), (B, A, (letter(7),)))

    def test_all_given(self):
        self.check((pair((A, B, 3, 3, ())),), ())

    def test_by_their_numbers(self):
        wires = ((0, A, B, 3, letter(3)), (0, A, B, 1, letter(1)), (0, A, B, 2, letter(2)))
        self.check((pair((A, B, 4, 1, ())),), wires, (A, B, (letter(1), letter(2), letter(3))))

    def test_kept_ones(self):
        wires = ((0, A, B, 2, letter(2)),)
        self.check((pair((A, B, 5, 2, ((3, letter(3)), (4, letter(4))))),), wires, (A, B, (letter(2), letter(3), letter(4))))
        wires = ((0, A, B, 4, letter(4)), (0, A, B, 2, letter(2)))
        self.check((pair((A, B, 5, 2, ((3, letter(3)),))),), wires, (A, B, (letter(2), letter(3), letter(4))))

    def test_each_number_once(self):
        # It came again: one is kept, another one is still on the wires; and the same packet twice on them.
        wires = ((0, A, B, 1, letter(1)), (0, A, B, 2, letter(2)), (0, A, B, 2, letter(2)), (0, A, B, 1, letter(1)))
        self.check((pair((A, B, 3, 1, ((2, letter(2)),))),), wires, (A, B, (letter(1), letter(2))))

    def test_kept_ahead_of_the_wires_and_the_first_there(self):
        wires = ((0, A, B, 1, letter(10)), (0, A, B, 1, letter(11)), (0, A, B, 2, letter(20)))
        self.check((pair((A, B, 3, 1, ((2, letter(21)),))),), wires, (A, B, (letter(10), letter(21))))

    def test_given_ones_on_the_wires(self):
        wires = ((0, A, B, 0, letter(0)), (0, A, B, 2, letter(2)), (0, A, B, 1, letter(1)))
        self.check((pair((A, B, 3, 2, ())),), wires, (A, B, (letter(2),)))
        self.check((pair((A, B, 3, 3, ())),), wires)

    def test_packets_of_an_elder_link(self):
        wires = ((0, A, B, 0, letter(50)), (2, A, B, 0, letter(0)), (1, A, B, 1, letter(51)), (0, A, B, 1, letter(52)), (2, A, B, 1, letter(1)))
        self.check((pair((A, B, 2, 0, ()), link=2),), wires, (A, B, (letter(0), letter(1))))
        self.check((pair(link=2),), wires)

    def test_houses_that_are_not_linked(self):
        wires = ((0, A, B, 0, letter(0)), (0, A, C, 0, letter(1)))
        self.check((pair(up=False), pair((A, C, 1, 0, ()), b=2)), wires, (A, C, (letter(1),)))
        self.check((pair(up=False), pair(b=2, up=False)), wires)

    def test_links_of_several_pairs(self):
        wires = ((1, A, B, 0, letter(0)), (0, A, C, 0, letter(1)), (0, A, B, 0, letter(2)), (1, A, C, 0, letter(3)), (3, B, C, 0, letter(4)))
        pairs = (pair((A, B, 1, 0, ()), link=1), pair((A, C, 1, 0, ()), b=2), pair((B, C, 1, 0, ()), a=1, b=2, link=3))
        self.check(pairs, wires, (A, B, (letter(0),)), (A, C, (letter(1),)), (B, C, (letter(4),)))

    def test_rising(self):
        word = ("word", "boss", A, True)
        wires = (
            (0, HOUSE[0], HOUSE[1], 0, word), (0, B, A, 0, letter(1)), (0, A, B, 0, letter(2)), (0, A, at(10, 1), 0, letter(3)), (0, A, at(9, 1), 0, letter(4)),
            (0, C, A, 0, letter(5)), (0, A, C, 0, letter(6)), (0, B, C, 0, ("link",)))
        rows = [(sender, to, 1, 0, ()) for _, sender, to, _, _ in wires]
        pairs = (
            pair(*sorted([row for row in rows if {row[0][1], row[1][1]} == {0, 1}])), pair(*sorted([row for row in rows if {row[0][1], row[1][1]} == {0, 2}]), b=2),
            pair(rows[7], a=1, b=2))
        told = things_on_way(land(pairs, wires))
        self.assertEqual(told, (
            (A, B, (letter(2),)), (A, at(9, 1), (letter(4),)), (A, at(10, 1), (letter(3),)), (A, C, (letter(6),)), (B, A, (letter(1),)), (B, C, (("link",),)),
            (C, A, (letter(5),)), (HOUSE[0], HOUSE[1], (word,))))
        self.assertEqual(list(told), sorted(told))

    def test_what_came_is_not_on_the_way(self):
        pairs = (pair((A, B, 1, 1, ())),)
        self.assertEqual(things_on_way(land(pairs, (), ((0, A, B, 0, letter(0)),))), ())
        # An elder one that came, of the number that is on the way now.
        pairs = (pair((A, B, 1, 0, ()), link=1),)
        self.assertEqual(things_on_way(land(pairs, ((1, A, B, 0, letter(1)),), ((0, A, B, 0, letter(0)),))), ((A, B, (letter(1),)),))

    def test_things_of_all_kinds(self):
        things = (letter(1), ("letter", None, ("unseen", (A, "hit"))), ("signal", "odd"), ("down", "gone"), ("link",), ("unlink",), ("watch",))
        wires = tuple([(0, A, B, k, thing) for k, thing in enumerate(things)])[::-1]
        self.check((pair((A, B, len(things), 0, ())),), wires, (A, B, things))

    def test_kinds_and_names(self):
        one = land((pair((A, B, 3, 0, ((1, letter(1)),))),), ((0, A, B, 0, letter(0)), (0, A, B, 2, letter(2))))
        told = things_on_way(land=one)
        self.assertEqual(told, ((A, B, (letter(0), letter(1), letter(2))),))
        self.assertEqual(kinds_of(told), {tuple, str, int})

    def test_made_up_ones(self):
        """Packets that went over links, some given, some kept, some elder, in any order and some of them twice."""
        founder = Founder(56)
        for _ in range(150):
            pairs, wires, told = [], [], []
            for a, b in ((0, 1), (0, 2), (1, 2)):
                link, up = founder.chance.randrange(3), founder.chance.randrange(4) > 0
                rows = []
                for sender, to in ((at(0, a), at(0, b)), (at(1, a), at(0, b)), (at(0, b), at(0, a)), (HOUSE[b], HOUSE[a])):
                    sent = founder.chance.randrange(1, 5)
                    given = founder.chance.randrange(sent + 1)
                    kept = [k for k in range(given + 1, sent) if founder.chance.randrange(2)]
                    wires.extend([(elder, sender, to, k, letter(100)) for elder in range(link) for k in range(2)])
                    if up:
                        rows.append((sender, to, sent, given, tuple([(k, letter(k)) for k in kept])))
                        wires.extend([(link, sender, to, k, letter(k)) for k in range(sent) if k >= given and k not in kept or founder.chance.randrange(2)])
                        told.append((sender, to, tuple([letter(k) for k in range(given, sent)])))
                    else:
                        wires.append((link, sender, to, 0, letter(200)))
                pairs.append((a, b, link, up, tuple(sorted(rows))))
            founder.chance.shuffle(wires)
            self.check(pairs, wires, *sorted([row for row in told if row[2]]))


if __name__ == "__main__":
    unittest.main()
