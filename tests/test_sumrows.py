"""Point 19: sums as rows, and rows that run."""

import unittest

from letterfolk.sumrows import run_sums, sum_rows
from letterfolk.sums import bound, worth
from making import SUMS, TOP, Maker, deep_sum, kinds_of

BINDINGS = (("a", 3), ("b", -5), ("c", "red"), ("d", ("at", 1, 2)))
HERE = ("at", 2, 7)
A, B = ("of", "a"), ("of", "b")


class Rows(unittest.TestCase):
    def test_leaves(self):
        for amount in (("is", 7), ("is", "red"), ("is", ("at", 0, 1)), ("of", "n"), ("self",)):
            self.assertEqual(sum_rows(amount), (amount,))

    def test_first_then_second_then_the_word(self):
        for word in ("plus", "minus", "less", "same"):
            self.assertEqual(sum_rows((word, A, B)), (A, B, (word,)))
            self.assertEqual(sum_rows((word, B, A)), (B, A, (word,)))

    def test_within_one_another(self):
        amount = ("plus", ("minus", A, ("is", 1)), ("less", ("self",), ("same", B, ("is", 2))))
        rows = (A, ("is", 1), ("minus",), ("self",), B, ("is", 2), ("same",), ("less",), ("plus",))
        self.assertEqual(sum_rows(amount), rows)
        self.assertEqual(sum_rows(amount=amount), rows)
        self.assertEqual(sum_rows(deep_sum(2)), (("is", 0), ("of", "x"), ("minus",), ("is", 1), ("plus",)))

    def test_kinds(self):
        for amount in (*SUMS, deep_sum(30)):
            told = sum_rows(amount)
            self.assertIs(type(told), tuple)
            self.assertLessEqual(kinds_of(told), {tuple, str, int})
            for row in told:
                self.assertIs(type(row), tuple)


class Run(unittest.TestCase):
    def run_all(self, rows, pile=()):
        return run_sums(rows, bindings=BINDINGS, address=HERE, pile=pile)

    def test_nothing(self):
        self.assertEqual(run_sums(()), ())
        self.assertEqual(run_sums((), pile=(1, "red", ("at", 0, 0))), (1, "red", ("at", 0, 0)))

    def test_leaves(self):
        rows = (("is", 7), ("of", "a"), ("of", "e"), ("self",), ("is", "red"), ("of", "d"))
        self.assertEqual(self.run_all(rows), (7, 3, 0, HERE, "red", ("at", 1, 2)))

    def test_the_last_but_one_first(self):
        self.assertEqual(self.run_all((("is", 7), ("is", 2), ("minus",))), (5,))
        self.assertEqual(self.run_all((("is", 2), ("is", 7), ("minus",))), (-5,))
        self.assertEqual(self.run_all((("is", 2), ("is", 7), ("less",))), (1,))
        self.assertEqual(self.run_all((("is", 7), ("is", 2), ("less",))), (0,))
        self.assertEqual(self.run_all((("is", 7), ("is", 2), ("plus",))), (9,))
        self.assertEqual(self.run_all((("is", "a"), ("is", "a"), ("same",))), (1,))
        self.assertEqual(self.run_all((("is", "a"), ("is", 0), ("same",))), (0,))

    def test_words_and_addresses_count_nothing(self):
        self.assertEqual(self.run_all((("is", "red"), ("is", 2), ("plus",))), (2,))
        self.assertEqual(self.run_all((("is", 2), ("self",), ("minus",))), (2,))
        self.assertEqual(self.run_all((("is", "red"), ("self",), ("less",))), (0,))

    def test_rows_use_what_is_on_the_pile(self):
        self.assertEqual(run_sums((("plus",),), pile=(5, 3, 4)), (5, 7))
        self.assertEqual(run_sums((("minus",), ("minus",)), pile=(9, 3, 4)), (10,))
        self.assertEqual(run_sums((("is", 1), ("minus",)), pile=(9, 3)), (9, 2))

    def test_several_sums(self):
        rows = sum_rows(("plus", A, ("is", 1))) + sum_rows(("self",)) + sum_rows(("minus", A, B))
        self.assertEqual(self.run_all(rows), (4, HERE, 8))
        self.assertEqual(self.run_all(rows, (1, "red")), (1, "red", 4, HERE, 8))

    def test_what_is_left_out(self):
        self.assertEqual(run_sums((("self",), ("of", "a"))), (("at", 0, 0), 0))
        self.assertEqual(run_sums((("self",),), bindings=BINDINGS), (("at", 0, 0),))
        self.assertEqual(run_sums((("of", "a"),), address=HERE), (0,))

    def test_by_names(self):
        self.assertEqual(run_sums(pile=(1,), address=HERE, bindings=BINDINGS, rows=(A,)), (1, 3))
        with self.assertRaises(TypeError):
            run_sums((A,), BINDINGS)

    def test_kinds_and_what_was_handed_in(self):
        rows, pile = (A, B, ("plus",)), (7, "red")
        told = self.run_all(rows, pile)
        self.assertEqual(told, (7, "red", -2))
        self.assertIs(type(told), tuple)
        self.assertEqual((rows, pile), ((A, B, ("plus",)), (7, "red")))
        for word in ("less", "same"):
            self.assertIs(type(self.run_all((A, A, (word,)))[0]), int)

    def test_any_greatness(self):
        self.assertEqual(run_sums(sum_rows(("plus", ("is", TOP), ("is", TOP)))), (2 * TOP,))
        self.assertEqual(run_sums(sum_rows(deep_sum(38, ("is", TOP)))), (worth(deep_sum(38, ("is", TOP))),))

    def test_rows_run_to_the_worths(self):
        maker = Maker(19)
        for _ in range(400):
            bindings = bound((), names=tuple([maker.word() for _ in range(6)]), values=maker.values(6))
            address = maker.address()
            amounts = [maker.amount() for _ in range(4)]
            pile = maker.values(2)
            rows = tuple([row for amount in amounts for row in sum_rows(amount)])
            told = run_sums(rows, bindings=bindings, address=address, pile=pile)
            self.assertEqual(told, pile + tuple([worth(amount, bindings=bindings, address=address) for amount in amounts]))
