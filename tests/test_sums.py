"""Points 3, 10, 11 and 12: sums, bindings, and worths."""

import unittest

from letterfolk.sums import NOBODY, bound, is_sum, worth
from making import NOTHINGS, SUMS, TOP, Maker, deep_sum, kinds_of, nested, spoiled

NO_SUMS = (
    ("is",), ("is", 1, 2), ("is", True), ("is", False), ("is", None), ("is", ""), ("is", "Red"), ("is", "abcdefghi"),
    ("is", ("at", 0, -1)), ("is", ("at", True, 0)), ("is", ["at", 0, 0]), ("is", ("is", 1)), ("is", [1]), ["is", 1],
    ("of",), ("of", ""), ("of", 1), ("of", True), ("of", "abcdefghi"), ("of", ("a",)), ("of", "a", "b"), ["of", "a"],
    ("self", 1), ("self", "a"), ["self"], "self", ("self",) * 2, ("plus",), ("plus", ("is", 1)), ("plus", ("is", 1), 1),
    ("plus", ("is", 1), ("is", 2), ("is", 3)), ("plus", ("is", 1), ["is", 2]), ("plus", ["is", 1], ("is", 2)),
    ("plus", 1, 2), ("times", ("is", 1), ("is", 2)), ("more", ("is", 1), ("is", 2)), ("is", ("is", 1), ("is", 2)),
    ("self", ("is", 1), ("is", 2)), ("less", ("is", 1), None), ("same", True, False), ("minus", ("is", 1), ()),
    (True,), (1,), (["self"],), (("self",),), ("", ("is", 1), ("is", 2)), ("plus",) * 3, ("of", "a", ("is", 1)),
    ("Is", 1), ("be", 1), ("self ",), (("plus",), ("is", 1), ("is", 2)), (["plus"], ("is", 1), ("is", 2)),
)
BINDINGS = (("a", 3), ("b", -5), ("c", "red"), ("d", ("at", 1, 2)), ("self", 9))
HERE = ("at", 2, 7)


class IsSum(unittest.TestCase):
    def test_sums(self):
        for thing in SUMS:
            self.assertIs(is_sum(thing), True, thing)

    def test_no_sums(self):
        for thing in (*NO_SUMS, *NOTHINGS, 0, 1, -1, "a", "is", ("at", 0, 0), ("hit", ())):
            self.assertIs(is_sum(thing), False, thing)

    def test_spoiled_sums(self):
        for amount in SUMS:
            for thing in spoiled(amount):
                self.assertIs(is_sum(thing), False, thing)

    def test_lacking_parts(self):
        for amount in SUMS:
            self.assertIs(is_sum(amount[:-1]), False, amount)

    def test_sums_within_one_another(self):
        for many in (4, 5, 13, 37):
            self.assertIs(is_sum(deep_sum(many)), True)
            self.assertIs(is_sum(deep_sum(many, ("is", True))), False)
            self.assertIs(is_sum(deep_sum(many, ("of", "abcdefghi"))), False)
        self.assertIs(is_sum(nested(("self",), 37)), False)

    def test_broad_sums(self):
        amount = ("is", 1)
        for _ in range(9):
            amount = ("plus", amount, amount)
        self.assertIs(is_sum(amount), True)

    def test_by_name(self):
        self.assertIs(is_sum(thing=("self",)), True)


class Bound(unittest.TestCase):
    def test_of_nothing(self):
        self.assertEqual(bound((), names=(), values=()), ())

    def test_others_keep_theirs(self):
        told = bound((("b", 1), ("d", 2)), names=("c", "a"), values=("red", ("at", 0, 1)))
        self.assertEqual(told, (("a", ("at", 0, 1)), ("b", 1), ("c", "red"), ("d", 2)))
        self.assertEqual(bound(BINDINGS, names=(), values=()), BINDINGS)

    def test_a_name_that_is_there_has_the_new_value(self):
        self.assertEqual(bound((("a", 1), ("b", 2)), names=("a",), values=(7,)), (("a", 7), ("b", 2)))

    def test_the_later_value_stays(self):
        told = bound((("a", 1),), names=("b", "a", "b", "a", "b"), values=(1, 2, 3, 4, 5))
        self.assertEqual(told, (("a", 4), ("b", 5)))
        told = bound((), names=("x", "x"), values=("red", ("at", 0, 0)))
        self.assertEqual(told, (("x", ("at", 0, 0)),))

    def test_is_rising_whatever_the_order(self):
        names = ("m", "z", "a", "ab", "b", "aa")
        told = bound((("c", 0),), names=names, values=(1, "red", ("at", 0, 0), 2, "a", -1))
        self.assertEqual([name for name, _ in told], ["a", "aa", "ab", "b", "c", "m", "z"])

    def test_values_are_told_as_they_are(self):
        told = bound((), names=("a", "b"), values=(TOP, -TOP))
        self.assertEqual(told, (("a", TOP), ("b", -TOP)))

    def test_kinds_and_what_was_handed_in(self):
        bindings = (("a", 1),)
        names, values = ("b", "a"), (2, "red")
        told = bound(bindings, names=names, values=values)
        self.assertEqual((bindings, names, values), ((("a", 1),), ("b", "a"), (2, "red")))
        self.assertEqual(kinds_of(told), {tuple, str, int})
        self.assertTrue(all(type(pair) is tuple and len(pair) == 2 for pair in told))

    def test_by_names(self):
        self.assertEqual(bound(values=(1,), names=("a",), bindings=()), (("a", 1),))
        with self.assertRaises(TypeError):
            bound((), ("a",), (1,))

    def test_made_up_ones(self):
        maker = Maker(11)
        for _ in range(200):
            names = tuple([maker.word() for _ in range(5)])
            first = bound((), names=names, values=maker.values(5))
            more = tuple([maker.word() for _ in range(4)])
            values = maker.values(4)
            told = bound(first, names=more, values=values)
            self.assertEqual(told, tuple(sorted({**dict(first), **dict(zip(more, values))}.items())))


class Worth(unittest.TestCase):
    def of(self, amount):
        return worth(amount, bindings=BINDINGS, address=HERE)

    def test_leaves(self):
        for value in (0, 5, -5, TOP, -TOP, "red", ("at", 3, 4)):
            self.assertEqual(self.of(("is", value)), value)
        self.assertEqual([self.of(("of", name)) for name in "abcd"], [3, -5, "red", ("at", 1, 2)])
        self.assertEqual(self.of(("self",)), HERE)
        self.assertEqual(self.of(("of", "self")), 9)

    def test_a_name_that_is_not_there(self):
        self.assertEqual(self.of(("of", "e")), 0)
        self.assertEqual(worth(("of", "a")), 0)
        self.assertIs(type(self.of(("of", "e"))), int)
        self.assertEqual(self.of(("plus", ("of", "e"), ("of", "a"))), 3)

    def test_numbers(self):
        cases = {"plus": (5, 3, 8, -2), "minus": (5, 3, 2, 8), "less": (5, 3, 0, 0)}
        for word, (one, other, told, below) in cases.items():
            self.assertEqual(self.of((word, ("is", one), ("is", other))), told)
            self.assertEqual(self.of((word, ("is", one), ("is", -other))), below if word != "plus" else 2)
        self.assertEqual(self.of(("minus", ("is", 3), ("is", 5))), -2)
        self.assertEqual(self.of(("less", ("is", 3), ("is", 5))), 1)
        self.assertEqual(self.of(("less", ("is", 5), ("is", 5))), 0)
        self.assertEqual(self.of(("less", ("is", -5), ("is", -4))), 1)

    def test_words_and_addresses_count_nothing(self):
        for none in (("is", "red"), ("is", ("at", 5, 5)), ("self",), ("of", "c"), ("of", "d")):
            self.assertEqual(self.of(("plus", none, ("is", 7))), 7)
            self.assertEqual(self.of(("plus", ("is", 7), none)), 7)
            self.assertEqual(self.of(("plus", none, none)), 0)
            self.assertEqual(self.of(("minus", none, ("is", 7))), -7)
            self.assertEqual(self.of(("minus", ("is", 7), none)), 7)
            self.assertEqual(self.of(("less", none, ("is", 1))), 1)
            self.assertEqual(self.of(("less", none, ("is", 0))), 0)
            self.assertEqual(self.of(("less", ("is", -1), none)), 1)
            self.assertEqual(self.of(("less", ("is", 0), none)), 0)
            self.assertEqual(self.of(("less", none, none)), 0)

    def test_same_compares_the_values(self):
        same = ((3, 3), ("red", "red"), (("at", 1, 2), ("at", 1, 2)), (TOP, TOP), (0, 0), (-1, -1))
        unlike = (
            (3, 4), (3, -3), ("red", "rod"), (("at", 1, 2), ("at", 2, 1)), (0, "red"), (0, ("at", 0, 0)), ("at", ("at", 0, 0)),
            (TOP, TOP - 1), ("a", "b"), (1, "a"),
        )
        for one, other in same:
            self.assertEqual(self.of(("same", ("is", one), ("is", other))), 1)
        for one, other in unlike:
            self.assertEqual(self.of(("same", ("is", one), ("is", other))), 0)
            self.assertEqual(self.of(("same", ("is", other), ("is", one))), 0)
        self.assertEqual(self.of(("same", ("self",), ("is", HERE))), 1)
        self.assertEqual(self.of(("same", ("of", "e"), ("is", 0))), 1)

    def test_truths_are_no_worths(self):
        for word in ("less", "same"):
            for one, other in ((1, 1), (1, 2), (2, 1)):
                self.assertIs(type(self.of((word, ("is", one), ("is", other)))), int)

    def test_what_is_left_out(self):
        self.assertEqual(worth(("self",)), ("at", 0, 0))
        self.assertEqual(worth(("self",), bindings=BINDINGS), NOBODY)
        self.assertEqual(worth(("of", "a"), address=HERE), 0)
        self.assertEqual(worth(("same", ("self",), ("is", ("at", 0, 0)))), 1)

    def test_any_greatness(self):
        amount = ("is", TOP)
        for _ in range(30):
            amount = ("plus", amount, ("is", TOP))
        self.assertEqual(worth(amount), 31 * TOP)
        self.assertEqual(worth(("minus", ("is", -TOP), amount)), -32 * TOP)
        self.assertEqual(worth(("less", ("is", TOP - 1), ("is", TOP))), 1)
        self.assertEqual(worth(("less", ("is", -TOP), ("is", 1 - TOP))), 1)

    def test_parts_within_one_another(self):
        amount = ("minus", ("plus", ("of", "a"), ("less", ("of", "b"), ("is", 0))), ("same", ("self",), ("self",)))
        self.assertEqual(self.of(amount), 3)
        self.assertEqual(self.of(("minus", ("is", 10), ("minus", ("is", 4), ("is", 1)))), 7)
        self.assertEqual(self.of(("minus", ("minus", ("is", 10), ("is", 4)), ("is", 1))), 5)

    def test_bindings_and_address_reach_all_parts(self):
        amount = ("plus", ("minus", ("of", "a"), ("of", "b")), ("same", ("self",), ("is", HERE)))
        for _ in range(10):
            amount = ("plus", ("is", 0), amount)
        self.assertEqual(self.of(amount), 9)

    def test_by_names(self):
        self.assertEqual(worth(address=HERE, amount=("of", "a"), bindings=(("a", 4),)), 4)
        with self.assertRaises(TypeError):
            worth(("self",), (), HERE)
