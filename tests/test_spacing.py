"""Point 49: how ticks are spaced, a breach of them, and whether any thing is one."""

import itertools
import unittest

from founding import ANY, caught
from letterfolk.breachchecker import lets_breach
from letterfolk.errors import FolkError, NoPaper, PaperError
from letterfolk.spacing import breach_of, spaced
from making import TOP, kinds_of


def all_ticks(most, many):
    """All ticks to most, so many at the most."""
    for k in range(many + 1):
        yield from itertools.combinations_with_replacement(range(most + 1), k)


class Spaced(unittest.TestCase):
    def test_none(self):
        self.assertEqual(spaced((), within=1), ())
        self.assertEqual(spaced((), within=9), ())

    def test_like_ticks(self):
        for within in (1, 2, 9):
            self.assertEqual(spaced((4, 4, 4, 4), within=within), (1, 2, 3, 4))
            self.assertEqual(spaced((0,), within=within), (1,))

    def test_the_edge_of_within(self):
        self.assertEqual(spaced((0, 3, 6, 9), within=3), (1, 1, 1, 1))
        self.assertEqual(spaced((0, 3, 6, 9), within=4), (1, 2, 2, 2))
        self.assertEqual(spaced((0, 3, 6, 9), within=6), (1, 2, 2, 2))
        self.assertEqual(spaced((0, 3, 6, 9), within=7), (1, 2, 3, 3))
        self.assertEqual(spaced((0, 3, 6, 9), within=10), (1, 2, 3, 4))

    def test_some(self):
        self.assertEqual(spaced((1, 1, 2, 5, 5, 6, 20), within=4), (1, 2, 3, 2, 3, 3, 1))
        self.assertEqual(spaced(within=1, ticks=(1, 1, 2, 5, 5, 6)), (1, 2, 1, 1, 2, 1))

    def test_by_places_not_by_ticks(self):
        # The first of like ones counts itself alone, not those behind it.
        self.assertEqual(spaced((7, 7, 7), within=1), (1, 2, 3))

    def test_kinds(self):
        told = spaced((1, 2, 2), within=2)
        self.assertEqual(kinds_of(told), {tuple, int})
        self.assertEqual(kinds_of(spaced((), within=2)), {tuple})
        with self.assertRaises(TypeError):
            spaced((1,), 2)

    def test_all_small_ones(self):
        for ticks in all_ticks(5, 5):
            for within in range(1, 7):
                told = tuple([sum([ticks[k] - ticks[j] < within for j in range(k + 1)]) for k in range(len(ticks))])
                self.assertEqual(spaced(ticks, within=within), told)


class BreachOf(unittest.TestCase):
    def test_none(self):
        for most in (0, 1, 5):
            self.assertIsNone(breach_of((), most=most, within=3))
        self.assertIsNone(breach_of((1, 2, 3), most=3, within=9))
        self.assertIsNone(breach_of((1, 4, 7), most=1, within=3))

    def test_at_the_edges(self):
        self.assertEqual(breach_of((5,), most=0, within=1), (0, 0))
        self.assertEqual(breach_of((1, 4), most=1, within=4), (0, 1))
        self.assertIsNone(breach_of((1, 4), most=1, within=3))
        self.assertEqual(breach_of((1, 10, 10), most=1, within=1), (1, 2))
        self.assertEqual(breach_of(within=3, most=2, ticks=(0, 4, 5, 6)), (1, 3))
        with self.assertRaises(TypeError):
            breach_of((1,), 0, 1)

    def test_every_breach_is_let_by(self):
        for ticks in all_ticks(6, 5):
            for most in range(4):
                for within in range(1, 8):
                    found = breach_of(ticks, most=most, within=within)
                    above = any([many > most for many in spaced(ticks, within=within)])
                    self.assertEqual(found is not None, above)
                    if found is not None:
                        self.assertEqual(kinds_of(found), {tuple, int})
                        self.assertEqual(lets_breach(ticks, found, most=most, within=within), found[1] - found[0] + 1)


class LetsBreach(unittest.TestCase):
    TICKS = (0, 2, 2, 3, 7, 7, 12)

    def check(self, thing, word, ticks=TICKS, most=1, within=3):
        refused = caught(self, NoPaper, lets_breach, ticks, thing, most=most, within=within)
        self.assertEqual((refused.word, refused.at), (word, -1))

    def test_how_many_ticks(self):
        for thing, most, within in (((0, 2), 2, 3), ((1, 2), 1, 1), ((1, 3), 1, 2), ((4, 5), 1, 1), ((0, 0), 0, 1), ((0, 6), 6, 13), ((6, 6), 0, 1)):
            told = lets_breach(self.TICKS, thing, most=most, within=within)
            self.assertEqual(told, thing[1] - thing[0] + 1)
            self.assertIs(type(told), int)
        self.assertEqual(lets_breach(within=3, most=1, thing=(1, 3), ticks=self.TICKS), 3)

    def test_no_pair_of_numbers(self):
        things = (
            (True, 2), (0, True), (False, 2), (1, False), (-1, 0), (0, -1), (-1, -1), (-TOP, 1), [1, 2], (1,), (1, 2, 3), (), ("1", 2), (1, "2"), (None, None),
            ((1,), 2), (1, [2]), ((1, 2),), ((1, 2), (1, 2)), "12", 1, *ANY)
        for thing in things:
            self.check(thing, "shape")
            self.check(thing, "shape", ticks=())
        for family in (PaperError, FolkError, ValueError):
            with self.assertRaises(family):
                lets_breach((), None, most=1, within=1)

    def test_no_places(self):
        for thing in ((0, 7), (6, 7), (7, 7), (7, 8), (2, 1), (6, 0), (0, TOP), (TOP, TOP), (TOP, 0)):
            self.check(thing, "places")
            self.check(thing, "places", most=0, within=TOP)
        self.check((0, 0), "places", ticks=(), most=0)

    def test_not_more_than_most(self):
        for thing, most in (((0, 0), 1), ((1, 2), 2), ((1, 3), 3), ((0, 6), 7), ((0, 6), TOP)):
            self.check(thing, "many", most=most)
            self.check(thing, "many", most=most, within=TOP)

    def test_not_within(self):
        for thing, within in (((0, 1), 2), ((0, 1), 1), ((1, 3), 1), ((0, 6), 12), ((5, 6), 5)):
            self.check(thing, "within", within=within)
            lets_breach(self.TICKS, thing, most=1, within=self.TICKS[thing[1]] - self.TICKS[thing[0]] + 1)

    def test_the_first_word(self):
        self.check((0, True), "shape", ticks=(0,))
        self.check((1, 0), "places", most=9, within=1)
        self.check((0, 6), "many", most=9, within=1)
        self.check((0, 6), "within", most=6, within=12)

    def test_all_small_ones(self):
        for ticks in ((), (0,), (1, 1, 2), (0, 2, 3, 3), (0, 0, 5)):
            for first, last, most, within in itertools.product(range(5), range(5), range(4), range(1, 6)):
                if first > last or last >= len(ticks):
                    self.check((first, last), "places", ticks, most, within)
                elif last - first + 1 <= most:
                    self.check((first, last), "many", ticks, most, within)
                elif ticks[last] - ticks[first] >= within:
                    self.check((first, last), "within", ticks, most, within)
                else:
                    self.assertEqual(lets_breach(ticks, (first, last), most=most, within=within), last - first + 1)

    def test_what_is_handed_in_stays(self):
        thing = [0, [1]]
        self.check(thing, "shape")
        self.assertEqual(thing, [0, [1]])


if __name__ == "__main__":
    unittest.main()
