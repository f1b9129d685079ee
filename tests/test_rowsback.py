"""Point 21: made code led back to the very code."""

import unittest

from letterfolk.coderows import made_code
from letterfolk.looks import is_code
from letterfolk.rowsback import unmade
from making import ACTS, ARMS, BEHAVIOURS, CODE, NEXTS, Maker, deep_sum, kinds_of

ONE = ("is", 1)


class Unmade(unittest.TestCase):
    def check(self, code):
        told = unmade(made_code(code))
        self.assertEqual(told, code)
        self.assertLessEqual(kinds_of(told), {tuple, str, int, type(None)})

    def test_rows_written_out(self):
        rows = (
            ("a", (("n",), (
                ("arm", "hit", ("k", "to"), 11), ("is", 0), ("of", "k"), ("less",), ("guard", 11),
                ("of", "to"), ("of", "n"), ("self",), ("send", "hit", 2), ("is", "red"), ("end",), ("none",),
            ), (("is", 5),), (("ask", "k", "boss"), ("of", "k"), ("go", "a", 1)))),
            ("b", ((), (("none",),), None, None)),
        )
        arm = ("hit", ("k", "to"), ("less", ("is", 0), ("of", "k")), (("send", ("of", "to"), "hit", (("of", "n"), ("self",))),),
               ("end", ("is", "red")))
        code = (("a", ("n",), (arm,), (("is", 5), (("ask", "k", "boss"),), ("go", "a", (("of", "k"),)))), ("b", (), (), None))
        self.assertEqual(unmade(rows), code)
        self.assertEqual(unmade(rows=rows), code)
        self.assertEqual(made_code(code), rows)

    def test_all_sorts(self):
        self.check(CODE)
        for behaviour in BEHAVIOURS:
            self.check((behaviour,))

    def test_each_act_and_next(self):
        for act in ACTS:
            for last in NEXTS:
                self.check((("a", (), (("hit", (), ONE, (act,), last),), (ONE, (act, act), last)),))

    def test_without_arms_without_late(self):
        self.check((("a", (), (), None), ("b", ("x", "y"), (), None)))
        self.check((("a", (), (), (ONE, (), ("end", ONE))),))
        self.check((("a", (), (("hit", (), ONE, (), ("end", ONE)),), None),))

    def test_arms_of_one_tag(self):
        arms = tuple([("hit", names, guard, (), ("end", ("is", k))) for k, (names, guard) in enumerate(
            (((), ONE), ((), ONE), (("a",), ("of", "a")), (("b",), ("of", "b")), ((), ("is", 0)), ((), ONE)))])
        self.check((("a", (), arms, None),))

    def test_sums_within_one_another(self):
        for many in (4, 13, 25):
            deep = deep_sum(many)
            acts = (("send", deep, "hit", (deep, ONE, deep)), ("make", "k", "a", (deep, deep), "free"), ("name", "b", deep))
            self.check((("a", ("x", "y"), (("hit", (), deep, acts, ("go", "a", (deep, deep))),), (deep, acts, ("end", deep))),))

    def test_words_of_rows_as_names(self):
        arm = ("arm", ("none", "guard"), ("of", "none"), (("send", ("is", "end"), "go", (("is", "plus"),)),), ("go", "none", ()))
        self.check((("none", (), (arm, arm), None),))

    def test_made_up_ones(self):
        maker = Maker(22)
        for _ in range(150):
            code = maker.code()
            self.assertIs(is_code(code), True)
            self.check(code)

    def test_arms_in_their_order(self):
        self.check((("a", (), (*ARMS, *ARMS[::-1]), None),))
