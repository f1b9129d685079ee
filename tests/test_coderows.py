"""Point 20: behaviours made into rows."""

import unittest

from letterfolk.coderows import made, made_code
from letterfolk.sumrows import sum_rows
from making import ACTS, BEHAVIOURS, CODE, Maker, deep_sum, kinds_of

ONE, TWO, N, K = ("is", 1), ("is", 2), ("of", "n"), ("of", "k")
ENDS = (ONE, ("end",))


def arms_of(*arms):
    """The rows of these arms."""
    return made(("rest", (), arms, None))[1]


def act_rows(act):
    """The rows of one act."""
    rows = arms_of(("hit", (), ONE, (act,), ("end", ONE)))
    assert rows[:3] == (("arm", "hit", (), len(rows) - 1), ONE, ("guard", len(rows) - 1))
    assert rows[-3:] == (*ENDS, ("none",))
    return rows[3:-3]


class Made(unittest.TestCase):
    def test_without_arms_and_late(self):
        self.assertEqual(made(("rest", (), (), None)), ((), (("none",),), None, None))
        self.assertEqual(made(("rest", ("b", "a"), (), None)), (("b", "a"), (("none",),), None, None))

    def test_each_act(self):
        sums = (("plus", N, ONE), K)
        rows = (N, ONE, ("plus",), K)
        cases = (
            (("send", ("minus", TWO, K), "hit", sums), (TWO, K, ("minus",), *rows, ("send", "hit", 2))),
            (("send", ("self",), "hit", ()), (("self",), ("send", "hit", 0))),
            (("make", "k", "work", sums, "free"), (*rows, ("make", "k", "work", 2, "free"))),
            (("make", "k", "work", (), "linked"), (("make", "k", "work", 0, "linked"),)),
            (("make", "b", "a", (ONE, TWO, ONE), "watched"), (ONE, TWO, ONE, ("make", "b", "a", 3, "watched"))),
            (("name", "boss", sums[0]), (*rows[:3], ("name", "boss"))), (("ask", "k", "boss"), (("ask", "k", "boss"),)),
        )
        for act, told in cases:
            self.assertEqual(act_rows(act), told)
        for word in ("link", "unlink", "watch", "trap", "tell"):
            self.assertEqual(act_rows((word, sums[0])), (*rows[:3], (word,)))
            self.assertEqual(act_rows((word, K)), (K, (word,)))

    def test_each_next(self):
        def next_rows(last):
            return arms_of(("hit", (), ONE, (), last))[3:-1]

        self.assertEqual(next_rows(("go", "rest", ())), (("go", "rest", 0),))
        self.assertEqual(next_rows(("go", "work", (("less", N, K), TWO))), (N, K, ("less",), TWO, ("go", "work", 2)))
        self.assertEqual(next_rows(("end", ("same", N, ("self",)))), (N, ("self",), ("same",), ("end",)))

    def test_parts_of_an_arm_and_the_row_behind_it(self):
        arm = ("hit", ("n", "k"), ("less", N, K), (("tell", N), ("ask", "b", "boss")), ("end", ONE))
        rows = (
            ("arm", "hit", ("n", "k"), 10), N, K, ("less",), ("guard", 10), N, ("tell",), ("ask", "b", "boss"), ONE, ("end",), ("none",),
        )
        self.assertEqual(arms_of(arm), rows)

    def test_several_arms(self):
        one = ("hit", (), ONE, (), ("end", ONE))
        two = ("bye", ("n",), ("plus", N, ONE), (("tell", N),), ("go", "rest", ()))
        rows = (
            ("arm", "hit", (), 5), ONE, ("guard", 5), *ENDS,
            ("arm", "bye", ("n",), 13), N, ONE, ("plus",), ("guard", 13), N, ("tell",), ("go", "rest", 0),
            ("arm", "hit", (), 18), ONE, ("guard", 18), *ENDS,
            ("none",),
        )
        self.assertEqual(arms_of(one, two, one), rows)

    def test_late(self):
        late = (("plus", N, ONE), (("tell", K), ("trap", ONE)), ("go", "rest", (TWO,)))
        told = made(("rest", ("n",), (), late))
        self.assertEqual(told, (("n",), (("none",),), (N, ONE, ("plus",)), (K, ("tell",), ONE, ("trap",), TWO, ("go", "rest", 1))))
        self.assertEqual(made(("rest", (), (), (ONE, (), ("end", N))))[2:], ((ONE,), (N, ("end",))))

    def test_all_parts_together(self):
        arm = ("hit", (), ONE, (), ("end", ONE))
        told = made(behaviour=("rest", ("n",), (arm,), (TWO, (), ("end", N))))
        self.assertEqual(told, (("n",), (("arm", "hit", (), 5), ONE, ("guard", 5), *ENDS, ("none",)), (TWO,), (N, ("end",))))

    def test_sums_are_made_into_their_rows(self):
        deep = deep_sum(20)
        self.assertEqual(act_rows(("tell", deep)), (*sum_rows(deep), ("tell",)))
        self.assertEqual(act_rows(("send", deep, "hit", (deep, deep))), sum_rows(deep) * 3 + (("send", "hit", 2),))

    def test_acts_in_their_order(self):
        alone = [act_rows(act) for act in ACTS]
        rows = arms_of(("hit", (), ONE, ACTS, ("end", ONE)))
        self.assertEqual(rows[3:-3], tuple([row for part in alone for row in part]))

    def test_made_up_ones(self):
        maker = Maker(20)
        for _ in range(80):
            for behaviour in maker.code():
                params, arms, wait, late = made(behaviour)
                self.assertEqual(params, behaviour[1])
                self.assertEqual((wait is None, late is None), (behaviour[3] is None, behaviour[3] is None))
                at = 0
                for arm in behaviour[2]:
                    word, tag, names, behind = arms[at]
                    self.assertEqual((word, tag, names), ("arm", *arm[:2]))
                    guard = at + 1 + len(sum_rows(arm[2]))
                    self.assertEqual(arms[guard], ("guard", behind))
                    self.assertIn(arms[behind - 1][0], ("go", "end"))
                    at = behind
                self.assertEqual(arms[at:], (("none",),))

    def test_kinds(self):
        for behaviour in BEHAVIOURS:
            self.assertLessEqual(kinds_of(made(behaviour)), {tuple, str, int, type(None)})


class MadeCode(unittest.TestCase):
    def test_rising_by_names(self):
        told = made_code(CODE)
        self.assertEqual(told, (("rest", made(CODE[0])), ("work", made(CODE[1]))))
        self.assertIs(type(told), tuple)
        self.assertTrue(all(type(pair) is tuple for pair in told))

    def test_each_by_its_own_tree(self):
        maker = Maker(21)
        for _ in range(40):
            code = maker.code()
            told = made_code(code=code)
            self.assertEqual(told, tuple([(behaviour[0], made(behaviour)) for behaviour in code]))
            self.assertEqual([name for name, _ in told], sorted([name for name, _ in told]))
