"""Point 68: the plain meaning of a land."""

import unittest

from founding import LIBRARY, at, life
from housing import REST, house_of, keeper
from landing import behind, first_land, letter
from letterfolk.houses import void_house
from letterfolk.plainlands import plain_of
from letterfolk.wires import things_on_way
from living import Lively
from letterfolk.lands import land_of
from making import kinds_of

A, B, C = at(0), at(0, 1), at(0, 2)
ADD = (at(9), 0, ("add", (1,)))


def land(houses, pairs, wires=(), came=(), roots=None):
    return (LIBRARY, (None,) * len(houses) if roots is None else roots, tuple(houses), tuple(pairs), tuple(wires), tuple(came))


class PlainOf(unittest.TestCase):
    def test_marks_are_none(self):
        folk = {
            0: life(REST, mails=(ADD, ADD), mark=2, has=(at(1),), known=(at(2),), watches=(at(3),), traps=True, since=4), 3: life(REST, mails=(ADD,)),
            7: life(keeper(None, past=(1, 2)), has=(at(4, 1),)), 9: life(REST, mails=(ADD, ADD, ADD), mark=1),
        }
        unmarked = {**folk, 0: life(REST, mails=(ADD, ADD), has=(at(1),), known=(at(2),), watches=(at(3),), traps=True, since=4), 9: life(REST, mails=(ADD,) * 3)}
        words = (("boss", at(0)), ("boss", at(4, 1)))
        told = plain_of(land([house_of(folk, loaded=(1, 2), words=words)], [], roots=(REST,)))
        self.assertEqual(told, (LIBRARY, (REST,), (house_of(unmarked, loaded=(1, 2), words=words),), (), ()))

    def test_pairs_without_rows(self):
        houses = [void_house(h) for h in range(3)]
        pairs = ((0, 1, 3, True, ((A, B, 2, 2, ()), (B, A, 1, 1, ()))), (0, 2, 4, False, ()), (1, 2, 0, True, ()))
        told = plain_of(land(houses, pairs))
        self.assertEqual(told, (LIBRARY, (None,) * 3, tuple(houses), ((0, 1, 3, True), (0, 2, 4, False), (1, 2, 0, True)), ()))

    def test_rows_of_what_is_on_the_way(self):
        houses = [void_house(h) for h in range(3)]
        word = ("word", "boss", B, True)
        pairs = (
            (0, 1, 1, True, ((A, B, 5, 2, ((4, letter(4)),)), (B, A, 1, 0, ()), (("house", 1), ("house", 0), 1, 0, ()))),
            (0, 2, 0, False, ()), (1, 2, 0, True, ((B, C, 3, 1, ()),)))
        wires = (
            (1, ("house", 1), ("house", 0), 0, word), (1, B, A, 0, ("link",)), (0, A, C, 0, letter(9)), (1, A, B, 3, letter(3)), (1, A, B, 2, letter(2)),
            (0, B, C, 2, letter(8)), (0, A, B, 2, letter(7)), (0, B, C, 1, letter(6)))
        told = plain_of(land(houses, pairs, wires, wires[:3]))
        rows = (
            (A, B, (letter(2), letter(3), letter(4))), (B, A, (("link",),)), (B, C, (letter(6), letter(8))), (("house", 1), ("house", 0), (word,)))
        self.assertEqual(told[4], rows)
        self.assertEqual(list(rows), sorted(rows))

    def test_none_of_what_came_or_of_parted_houses(self):
        start = first_land(LIBRARY, None, None)
        told = behind(start, ("part", 0, 1))
        wires = ((0, A, B, 0, letter(1)),)
        self.assertEqual(plain_of((*told[:4], wires, wires))[4], ())
        pairs = ((0, 1, 0, True, ((A, B, 1, 1, ()),)),)
        self.assertEqual(plain_of((*start[:3], pairs, (), wires))[4], ())

    def test_the_first_land(self):
        plan = ("plan", "one", 1, 1, (REST, None))
        start = first_land(LIBRARY, plan, REST)
        self.assertEqual(plain_of(start), (LIBRARY, (plan, REST), start[2], ((0, 1, 0, True),), ()))

    def test_kinds_names_and_made_up_ones(self):
        maker = Lively(68)
        for _ in range(20):
            library = maker.library(2)
            _, lands, _ = maker.steps(land_of(library, maker.roots(library))[0], 40)
            for one in lands:
                told = plain_of(land=one)
                self.assertLessEqual(kinds_of(told), {tuple, str, int, bool, type(None)})
                self.assertEqual(told[4], things_on_way(one))
                self.assertEqual({told_life[1][0] for house in told[2] for _, told_life in house[4]} - {0}, set())
                self.assertEqual(told[:2], one[:2])


if __name__ == "__main__":
    unittest.main()
