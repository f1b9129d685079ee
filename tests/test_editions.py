"""Point 40: whether any thing is a library, and what is loaded behind an edition."""

import unittest

from founding import ANY, END, LIBRARY, ONE, TABLES, Founder, caught
from letterfolk.codereader import read_code
from letterfolk.editions import is_library, load
from letterfolk.errors import FolkError, NoStep, RunError
from making import CODE, NOTHINGS, TOP, deep_sum, spoiled

VOID = ((), ())
CODES = tuple([code for code, _ in LIBRARY])
DEEP_SELF = ("plus", ("is", 1), ("minus", ("less", ("of", "a"), ("same", ("is", 2), ("self",))), ("is", 3)))
ELDER = read_code("be one a\nbe two a b")
NEWER = read_code("be five a b\nbe four\nbe six a")


def with_table(*tables):
    """The first editions of the library, with these tables behind the first."""
    return tuple(zip(CODES, (VOID, *tables)))


def pair(states=(), letters=()):
    """A library of two editions with this table between them."""
    return ((ELDER, VOID), (NEWER, (states, letters)))


class IsLibrary(unittest.TestCase):
    def check(self, thing, told):
        self.assertIs(is_library(thing), told, str(thing)[:200])

    def test_libraries(self):
        for many in range(1, 5):
            self.check(LIBRARY[:many], True)
        self.check(((CODE, VOID),), True)
        self.check(((CODE, VOID),) * 6, True)
        self.check(with_table(VOID, VOID, VOID), True)
        self.assertIs(is_library(thing=LIBRARY), True)

    def test_made_up_ones(self):
        founder = Founder(40)
        for _ in range(60):
            self.check(founder.library(6), True)

    def test_no_tuple_of_editions(self):
        for thing in (*NOTHINGS, *[other for other in ANY if other != LIBRARY], (), [], list(LIBRARY), list(CODE), (CODE,), (LIBRARY,)):
            self.check(thing, False)
            self.check((thing,), False)
            self.check((*LIBRARY, thing), False)
            self.check(((CODE, thing),), False)
            self.check(((thing, VOID),), False)
        for thing in (CODE, LIBRARY[0], (list(LIBRARY[0]), *LIBRARY[1:])):
            self.check(thing, False)
        self.check(((CODE, VOID, VOID),), False)
        self.check(((CODE,),), False)

    def test_each_place_made_wrong(self):
        for thing in spoiled((LIBRARY[0], LIBRARY[1])):
            # An edition more of no code, or a code that is none, is no library, whatever it is.
            self.check(thing, False)

    def test_the_first_edition_has_no_rows(self):
        row = ("count", ("count", (("of", "n"),)))
        for table in (((row,), ()), ((), ((("add", 1), ("add", ())),)), TABLES[1], None, (), ((),), ((), (), ()), [(), ()], ((), []), ([], ())):
            self.check(((CODES[0], table),), False)
            self.check(((CODES[0], table), LIBRARY[1]), False)

    def test_later_editions_have_a_table(self):
        for table in (None, (), ((),), ((), (), ()), [(), ()], ((), []), ([], ()), True, 0, "a"):
            self.check(with_table(table), False)
        self.check(with_table(VOID), True)

    def test_rows_rise_by_unlike_behaviours(self):
        one, two = ("one", ("four", ())), ("two", ("six", (ONE,)))
        self.check(pair((one, two)), True)
        self.check(pair((two,)), True)
        for states in ((two, one), (one, one), (two, two), (one, two, one), (one, ("one", ("six", (ONE,))))):
            self.check(pair(states), False)

    def test_behaviours_are_there(self):
        for row, told in (
                (("one", ("four", ())), True), (("four", ("four", ())), False), (("three", ("four", ())), False), (("one", ("one", (ONE,))), False),
                (("one", ("three", ())), False), (("ONE", ("four", ())), False), (("one", ("FOUR", ())), False), ((("one",), ("four", ())), False),
                (("one", (("four",), ())), False), ((["one"], ("four", ())), False), (("one", (["four"], ())), False)):
            self.check(pair((row,)), told)

    def test_the_code_below_is_that_just_below(self):
        third = read_code("be one a\nbe two a b")
        for name, told in (("four", True), ("six", True), ("one", False), ("two", False)):
            self.check((*pair(), (third, (((name, ("one", (ONE,))),), ()))), told)
        self.check((*pair(), (third, ((("four", ("four", ())),), ()))), False)

    def test_as_many_sums_as_params(self):
        for name, many in (("four", 0), ("six", 1), ("five", 2)):
            for k in range(4):
                self.check(pair((("two", (name, (ONE,) * k)),)), k == many)

    def test_rows_of_letters_rise(self):
        keys = (("a", 0), ("a", 1), ("a", 2), ("a", 10), ("ab", 0), ("b", 1))
        rows = tuple([(key, ("a", ())) for key in keys])
        self.check(pair((), rows), True)
        for k in range(1, len(rows)):
            self.check(pair((), (*rows[:k - 1], rows[k], rows[k - 1], *rows[k + 1:])), False)
            self.check(pair((), (*rows[:k], rows[k - 1], *rows[k:])), False)
        self.check(pair((), (rows[0], (("a", 0), ("b", (ONE,))))), False)

    def test_how_many_values_a_letter_has(self):
        for many, told in ((0, True), (1, True), (25, True), (26, True), (27, False), (28, False), (TOP, False), (-1, False), (True, False),
                           (False, False), (None, False), ("1", False), ((), False), ([1], False)):
            self.check(pair((), ((("a", many), ("a", ())),)), told)

    def test_letters_come_to_any_sums(self):
        for many in (0, 1, 5, 40):
            self.check(pair((), ((("a", 1), ("b", (("of", "z"), *(ONE,) * many))),)), True)

    def test_self_stands_nowhere(self):
        for amount in (("self",), ("plus", ("self",), ONE), ("same", ONE, ("self",)), DEEP_SELF, deep_sum(30, ("self",))):
            self.check(pair((("one", ("six", (amount,))),)), False)
            self.check(pair((("one", ("five", (ONE, amount))),)), False)
            self.check(pair((), ((("a", 1), ("a", (amount,))),)), False)
            self.check(pair((), ((("a", 1), ("a", (ONE, ONE, amount))),)), False)
        for amount in (ONE, ("is", ("at", 0, 0)), ("of", "self"), ("is", "self"), ("plus", ("of", "self"), ("is", "self")), deep_sum(30)):
            self.check(pair((("one", ("six", (amount,))),)), True)
            self.check(pair((), ((("a", 1), ("a", (amount,))),)), True)

    def test_no_sums(self):
        for amount in (("is", True), ("is", False), ("is", None), ("is", 1, 2), ("of", 1), ["is", 1], 1, True, None, "a", ("plus", ONE), deep_sum(12, ("is", True))):
            self.check(pair((("one", ("six", (amount,))),)), False)
            self.check(pair((), ((("a", 1), ("a", (amount,))),)), False)

    def test_code_that_is_none(self):
        wrong = (("b", (), (), None), ("a", (), (), None))
        lost = (("a", (), (("hit", (), ONE, (), ("go", "b", ())),), None),)
        for code in (wrong, lost, (), [*ELDER], (ELDER[0], ELDER[0])):
            self.check(((code, VOID),), False)
            self.check(((ELDER, VOID), (code, VOID)), False)

    def test_beyond_the_bounds(self):
        names = sorted([a + b + c for a in "abcdefghijklmnopqrst" for b in "abcdefghij" for c in "abcdefghij"])
        code = tuple([(name, ("p",), (("hit", (), ONE, (), END),), None) for name in names])
        states = tuple([(name, (name, (("of", "p"),))) for name in names])
        letters = tuple([((name, 1), (name, (("of", "a"),))) for name in names])
        self.check(((code, VOID), *((code, (states, letters)),) * 9), True)
        self.check(((code, VOID), (code, (states, letters)), (code, ((*states, states[0]), letters))), False)
        self.check(((code, VOID), (code, (states, (*letters, (("zzz", 1), ("a", (("self",),))))))), False)
        self.check((*((code, VOID),) * 9, (code, None)), False)

    def test_what_is_handed_in_stays(self):
        thing = [[CODE, [[], []]]]
        self.check(thing, False)
        self.assertEqual(thing, [[CODE, [[], []]]])


class Load(unittest.TestCase):
    def test_the_one_above_the_newest(self):
        self.assertEqual(load(LIBRARY, (0,), 1), (0, 1))
        self.assertEqual(load(LIBRARY, (0, 1), 2), (1, 2))
        self.assertEqual(load(LIBRARY, (1, 2), 3), (2, 3))
        self.assertEqual(load(LIBRARY, (2,), 3), (2, 3))
        self.assertEqual(load(edition=2, loaded=(1,), library=LIBRARY), (1, 2))
        self.assertIs(type(load(LIBRARY, (0,), 1)), tuple)

    def test_each_other_number(self):
        for loaded in ((0,), (1,), (2,), (3,), (0, 1), (1, 2), (2, 3)):
            for edition in range(-2, 7):
                if edition == loaded[-1] + 1 and edition < 4:
                    self.assertEqual(load(LIBRARY, loaded, edition), (loaded[-1], edition))
                else:
                    self.assertEqual(caught(self, NoStep, load, LIBRARY, loaded, edition).word, "edition")

    def test_no_edition(self):
        # True equals 1, which would do.
        for edition in (True, False, "1", "a", None, (1,), [1], TOP, -TOP, *ANY):
            self.assertEqual(caught(self, NoStep, load, LIBRARY, (0,), edition).word, "edition")
        for family in (RunError, FolkError, ValueError):
            with self.assertRaises(family):
                load(LIBRARY, (0,), True)

    def test_none_that_the_library_has_not(self):
        self.assertEqual(caught(self, NoStep, load, LIBRARY[:1], (0,), 1).word, "edition")
        self.assertEqual(caught(self, NoStep, load, LIBRARY[:2], (0, 1), 2).word, "edition")
        self.assertEqual(caught(self, NoStep, load, LIBRARY, (2, 3), 4).word, "edition")


if __name__ == "__main__":
    unittest.main()
