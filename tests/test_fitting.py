"""Points 3, 4, 26 and 28: which arm fits, and how many ticks it waits, by the tree and by rows; and whom a word has."""

import unittest

from letterfolk.coderows import made
from letterfolk.fitting import fitting, waits_of
from letterfolk.hands import whom
from letterfolk.rowtaking import row_fitting, row_waits
from making import TOP, Maker

ONE = ("is", 1)
HERE = ("at", 2, 7)


def arm(tag, names, guard):
    return (tag, names, guard, (), ("end", ONE))


def rest(*arms, params=(), late=None):
    return ("rest", params, arms, late)


class Fitting(unittest.TestCase):
    """By the tree."""

    def fits(self, behaviour, values, letter, **more):
        return fitting(behaviour, values, letter, **more)

    def waits(self, behaviour, values, **more):
        return waits_of(behaviour, values, **more)

    def check(self, behaviour, values, cases, **more):
        for letter, told in cases:
            found = self.fits(behaviour, values, letter, **more)
            self.assertEqual(found, told, letter)
            self.assertIsNot(found, True)
            self.assertIsNot(found, False)

    def test_none(self):
        self.check(rest(), (), ((("hit", ()), None), (("hit", (1,)), None)))

    def test_tag_and_many(self):
        behaviour = rest(arm("hit", (), ONE), arm("bye", ("a",), ONE), arm("hit", ("a", "b"), ONE))
        cases = (
            (("hit", ()), 0), (("bye", (5,)), 1), (("hit", (5, 6)), 2), (("bye", ()), None), (("hit", (5,)), None), (("hit", (5, 6, 7)), None),
            (("no", ()), None), (("bye", (5, 6)), None), (("hi", ()), None), (("hits", ()), None),
        )
        self.check(behaviour, (), cases)

    def test_the_first_of_several(self):
        self.check(rest(arm("hit", (), ("is", 0)), arm("hit", (), ONE), arm("hit", (), ONE)), (), ((("hit", ()), 1),))
        self.check(rest(arm("hit", ("a",), ONE), arm("hit", ("b",), ONE)), (), ((("hit", (0,)), 0),))
        self.check(rest(arm("bye", (), ONE), arm("hit", ("a",), ("of", "a")), arm("hit", ("b",), ONE)), (), (
            (("hit", (1,)), 1), (("hit", (0,)), 2), (("hit", ("red",)), 2)))

    def test_guards(self):
        behaviour = rest(arm("hit", ("a",), ("of", "a")))
        values = ((1, 0), (2, 0), (TOP, 0), (0, None), (-1, None), (-TOP, None), ("red", None), ("a", None), (("at", 1, 1), None))
        self.check(behaviour, (), [(("hit", (value,)), told) for value, told in values])

    def test_guards_of_sums(self):
        behaviour = rest(arm("hit", ("a", "b"), ("less", ("of", "a"), ("of", "b"))), arm("hit", ("a", "b"), ("minus", ("of", "a"), ("of", "b"))))
        self.check(behaviour, (), ((("hit", (1, 2)), 0), (("hit", (2, 1)), 1), (("hit", (2, 2)), None), (("hit", (1, "red")), 1)))
        behaviour = rest(arm("hit", (), ("is", "red")), arm("hit", (), ("self",)), arm("hit", (), ("of", "none")), arm("hit", (), ONE))
        self.check(behaviour, (), ((("hit", ()), 3),))

    def test_params_and_names(self):
        behaviour = rest(arm("hit", ("b",), ("less", ("of", "a"), ("of", "b"))), params=("a", "c"))
        self.check(behaviour, (3, 9), ((("hit", (4,)), 0), (("hit", (3,)), None)))
        self.check(behaviour, (9, 3), ((("hit", (4,)), None), (("hit", (10,)), 0)))

    def test_a_name_in_both_has_the_letters_value(self):
        behaviour = rest(arm("hit", ("a",), ("of", "a")), arm("bye", (), ("of", "a")), params=("a",))
        self.check(behaviour, (0,), ((("hit", (1,)), 0), (("hit", (0,)), None), (("bye", ()), None)))
        self.check(behaviour, (1,), ((("hit", (1,)), 0), (("hit", (0,)), None), (("bye", ()), 1)))

    def test_names_of_one_arm_are_not_those_of_the_next(self):
        behaviour = rest(arm("hit", ("a",), ("is", 0)), arm("hit", ("b",), ("of", "a")), arm("hit", ("c",), ("same", ("of", "b"), ("is", 0))))
        self.check(behaviour, (), ((("hit", (1,)), 2),))

    def test_names_in_the_order_of_the_letter(self):
        behaviour = rest(arm("hit", ("b", "a"), ("less", ("of", "a"), ("of", "b"))), params=("z", "y"))
        self.check(behaviour, (1, 2), ((("hit", (2, 1)), 0), (("hit", (1, 2)), None)))
        behaviour = rest(arm("hit", (), ("less", ("of", "z"), ("of", "y"))), params=("z", "y"))
        self.check(behaviour, (1, 2), ((("hit", ()), 0),))
        self.check(behaviour, (2, 1), ((("hit", ()), None),))

    def test_the_address(self):
        behaviour = rest(arm("hit", ("a",), ("same", ("of", "a"), ("self",))))
        self.check(behaviour, (), ((("hit", (HERE,)), 0), (("hit", (("at", 0, 0),)), None)), address=HERE)
        self.check(behaviour, (), ((("hit", (HERE,)), None), (("hit", (("at", 0, 0),)), 0)))

    def test_waits(self):
        cases = ((5, 5), (1, 1), (0, 1), (-1, 1), (-TOP, 1), (TOP, TOP), ("red", 1), (("at", 3, 3), 1), (2, 2))
        for value, told in cases:
            self.assertEqual(self.waits(rest(late=(("is", value), (), ("end", ONE))), ()), told)
            self.assertEqual(self.waits(rest(params=("a",), late=(("of", "a"), (), ("end", ONE))), (value,)), told)
        self.assertEqual(self.waits(rest(late=(("self",), (), ("end", ONE))), (), address=HERE), 1)
        self.assertEqual(self.waits(rest(late=(("of", "a"), (), ("end", ONE))), ()), 1)

    def test_waits_without_late(self):
        self.assertIsNone(self.waits(rest(), ()))
        self.assertIsNone(self.waits(rest(arm("hit", (), ONE), params=("a",)), (5,)))

    def test_waits_by_params_and_address(self):
        late = (("plus", ("minus", ("of", "b"), ("of", "a")), ("same", ("self",), ("is", HERE))), (), ("end", ONE))
        behaviour = rest(params=("b", "a"), late=late)
        self.assertEqual(self.waits(behaviour, (9, 2)), 7)
        self.assertEqual(self.waits(behaviour, (9, 2), address=HERE), 8)
        self.assertEqual(self.waits(behaviour, (2, 9), address=HERE), 1)
        late = (("plus", ("is", 2), ("same", ("self",), ("is", ("at", 0, 0)))), (), ("end", ONE))
        self.assertEqual(self.waits(rest(late=late), ()), 3)
        self.assertEqual(self.waits(rest(late=late), (), address=HERE), 2)

    def test_waits_is_a_number(self):
        late = (("less", ("is", 0), ONE), (), ("end", ONE))
        self.assertIs(type(self.waits(rest(late=late), ())), int)

    def test_by_names(self):
        behaviour = rest(arm("hit", ("a",), ("same", ("of", "a"), ("self",))), late=(("of", "n"), (), ("end", ONE)), params=("n",))
        self.assertEqual(fitting(address=HERE, letter=("hit", (HERE,)), values=(4,), behaviour=behaviour), 0)
        self.assertEqual(waits_of(address=HERE, values=(4,), behaviour=behaviour), 4)
        rows = made(behaviour)
        self.assertEqual(row_fitting(address=HERE, letter=("hit", (HERE,)), values=(4,), rows=rows), 0)
        self.assertEqual(row_waits(address=HERE, values=(4,), rows=rows), 4)
        for wrong in (lambda: fitting(behaviour, (4,), ("hit", ()), HERE), lambda: waits_of(behaviour, (4,), HERE)):
            self.assertRaises(TypeError, wrong)
        for wrong in (lambda: row_fitting(rows, (4,), ("hit", ()), HERE), lambda: row_waits(rows, (4,), HERE)):
            self.assertRaises(TypeError, wrong)


class RowFitting(Fitting):
    """By rows, all the same."""

    def fits(self, behaviour, values, letter, **more):
        return row_fitting(made(behaviour), values, letter, **more)

    def waits(self, behaviour, values, **more):
        return row_waits(made(behaviour), values, **more)

    def test_made_up_ones(self):
        maker = Maker(28)
        found = []
        for _ in range(150):
            for behaviour in maker.code():
                rows = made(behaviour)
                values = maker.values(len(behaviour[1]))
                for _ in range(4):
                    letter, address = maker.letter(behaviour), maker.address()
                    told = fitting(behaviour, values, letter, address=address)
                    self.assertEqual(row_fitting(rows, values, letter, address=address), told)
                    self.assertEqual(row_fitting(rows, values, letter), fitting(behaviour, values, letter))
                    self.assertEqual(row_waits(rows, values, address=address), waits_of(behaviour, values, address=address))
                    self.assertEqual(row_waits(rows, values), waits_of(behaviour, values))
                    found.append(told)
        for told in (None, 0, 1, 2, 3):
            self.assertGreater(found.count(told), 5)


class Whom(unittest.TestCase):
    def test_none(self):
        for words in ((), (("boss", HERE),), (("a", HERE), ("bosses", HERE))):
            self.assertEqual(whom(words, "b"), 0)
            self.assertIs(type(whom(words, "b")), int)

    def test_the_least(self):
        words = (("a", ("at", 0, 9)), ("boss", ("at", 0, 3)), ("boss", ("at", 0, 12)), ("boss", ("at", 1, 0)), ("c", ("at", 0, 0)))
        self.assertEqual(whom(words, "boss"), ("at", 0, 3))
        self.assertEqual(whom(words[2:], "boss"), ("at", 0, 12))
        self.assertEqual(whom(words[3:], "boss"), ("at", 1, 0))
        self.assertEqual(whom(words[4:], "boss"), 0)
        self.assertEqual(whom(word="c", words=words), ("at", 0, 0))

    def test_numbers_not_figures(self):
        self.assertEqual(whom((("a", ("at", 2, 0)), ("a", ("at", 10, 0))), "a"), ("at", 2, 0))
