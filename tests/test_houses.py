"""Points 26 and 32: a house of nobody, who lives in a house, and what is around there."""

import unittest

from founding import ANY, at, caught, life
from letterfolk.errors import FolkError, NoFolk, RunError
from letterfolk.houses import around_of, life_of, void_house
from making import TOP, kinds_of

ZERO = life(("count", (3,), 0), mails=((None, None, ("hit", ())),), mark=1, has=(at(1), at(4, 2)), known=(at(1),), since=2)
FIRST = life(traps=True, watches=(at(0),))
SEVEN = life(("keeper", "one", 1, 2, (None,), (None,), (3,)))
WORDS = (("boss", at(0, 1)), ("boss", at(7)), ("red", at(1)))
HOUSE = (0, 5, 9, (0, 1), ((0, ZERO), (1, FIRST), (7, SEVEN)), WORDS)


class VoidHouse(unittest.TestCase):
    def test_what_is_left_out(self):
        self.assertEqual(void_house(0), (0, 0, 0, (0,), (), ()))
        self.assertEqual(void_house(2), (2, 0, 0, (0,), (), ()))

    def test_what_is_handed_in(self):
        self.assertEqual(void_house(1, clock=7, made=12, loaded=(2, 3)), (1, 7, 12, (2, 3), (), ()))
        self.assertEqual(void_house(1, made=4), (1, 0, 4, (0,), (), ()))
        self.assertEqual(void_house(1, loaded=(5,)), (1, 0, 0, (5,), (), ()))
        self.assertEqual(void_house(loaded=(1,), made=3, clock=2, h=0), (0, 2, 3, (1,), (), ()))

    def test_kinds(self):
        self.assertEqual(kinds_of(void_house(1, clock=7, made=12, loaded=(2, 3))), {tuple, int})
        with self.assertRaises(TypeError):
            void_house(0, 1)

    def test_nobody_lives_there(self):
        house = void_house(1, made=12)
        for number in (0, 1, 11, 12):
            self.assertEqual(caught(self, NoFolk, life_of, house, number).address, number)
        self.assertEqual(around_of(house), (12, (), ()))


class LifeOf(unittest.TestCase):
    def test_each_that_lives(self):
        for number, told in ((0, ZERO), (1, FIRST), (7, SEVEN)):
            self.assertEqual(life_of(HOUSE, number), told)
        self.assertEqual(life_of(number=7, house=HOUSE), SEVEN)

    def test_nobody(self):
        # True and False equal 1 and 0, who live there.
        for number in (2, 6, 8, 9, -1, -7, TOP, -TOP, 10 ** 199, True, False, "0", "count", at(0), at(1), ZERO, [1], (1,), *ANY):
            refused = caught(self, NoFolk, life_of, HOUSE, number)
            self.assertIs(refused.address, number)
        for family in (RunError, FolkError, ValueError):
            with self.assertRaises(family):
                life_of(HOUSE, None)

    def test_the_very_thing_is_kept_as_it_was(self):
        thing = [1, [0]]
        self.assertIs(caught(self, NoFolk, life_of, HOUSE, thing).address, thing)
        self.assertEqual(thing, [1, [0]])


class AroundOf(unittest.TestCase):
    def test_around(self):
        self.assertEqual(around_of(HOUSE), (9, (0, 1, 7), WORDS))
        self.assertEqual(around_of(house=HOUSE), (9, (0, 1, 7), WORDS))
        self.assertEqual(around_of((3, 1, 2, (0,), ((1, FIRST),), ())), (2, (1,), ()))
        self.assertEqual(kinds_of(around_of(HOUSE)), {tuple, int, str})


if __name__ == "__main__":
    unittest.main()
