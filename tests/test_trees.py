"""Points 3, 13 and 14: acts, nexts, arms, lates and behaviours, of any thing; and the namings."""

import unittest

from letterfolk.trees import is_act, is_arm, is_behaviour, is_late, is_next, namings
from making import ACTS, ARMS, BEHAVIOURS, CODE, LATES, NEXTS, NOTHINGS, SUMS, TOP, Maker, deep_sum, kinds_of, nested, spoiled

ONE = ("is", 1)
TESTS = {"act": is_act, "next": is_next, "arm": is_arm, "late": is_late, "behaviour": is_behaviour}
GOOD = {"act": ACTS, "next": NEXTS, "arm": ARMS, "late": LATES, "behaviour": BEHAVIOURS}

NO_ACTS = (
    ("send", ONE, "hit"), ("send", ONE, "hit", ONE), ("send", ONE, "hit", (1,)), ("send", ONE, "hit", [ONE]),
    ("send", 1, "hit", ()), ("send", ONE, "Hit", ()), ("send", ONE, "", ()), ("send", ONE, "abcdefghi", ()),
    ("send", ONE, 1, ()), ("send", ONE, "hit", None), ("send", ONE, "hit", (), ()), ["send", ONE, "hit", ()],
    ("send", "hit", ONE, ()), ("send", ("at", 0, 0), "hit", ()), ("make", "k", "work", ()), ("make", "k", "work", (), "tied"),
    ("make", "k", "work", (), ""), ("make", "k", "work", (), None), ("make", "k", "work", (), True),
    ("make", "k", "work", (), ["free"]), ("make", "k", "work", "free", ()), ("make", "K", "work", (), "free"),
    ("make", "k", "works of", (), "free"), ("make", 1, "work", (), "free"), ("make", "k", 1, (), "free"),
    ("make", "k", ("work",), (), "free"), ("make", "k", "work", ONE, "free"), ("make", "k", "work", [ONE], "free"),
    ("make", "k", "work", (), "free", ()), ("make", ONE, "work", (), "free"), ("link",), ("link", 1), ("link", "k"),
    ("link", ONE, ONE), ("link", (ONE,)), ("links", ONE), ("unlink", None), ("unlink", ("at", 0, 0)), ("watch", ()),
    ("watch", ONE, "k"), ("trap", True), ("trap", False), ("trap", 1), ("trap",), ("tell",), ("tell", "red"), ("name", ONE),
    ("name", "boss"), ("name", ONE, "boss"), ("name", "Boss", ONE), ("name", 1, ONE), ("name", "boss", "k"),
    ("name", "boss", ONE, ONE), ("ask", "b"), ("ask", "b", ONE), ("ask", ONE, "b"), ("ask", "b", "abcdefghi"), ("ask", "", "b"),
    ("ask", "b", "boss", "c"), ("ask", True, "b"), ("ask", "b", None), ("go", "work", ()), ("end", ONE), ("say", ONE),
    (["link"], ONE), (("link",), ONE), (True, ONE), ("Link", ONE), ("send",), ("make",), ("name",), ("ask",), ("link", ("is", True)),
)
NO_NEXTS = (
    ("go",), ("go", "work"), ("go", "work", ONE), ("go", "work", [ONE]), ("go", "work", None), ("go", "Work", ()),
    ("go", 1, ()), ("go", "abcdefghi", ()), ("go", "", ()), ("go", "work", (1,)), ("go", "work", (), ()), ("go", ONE, ()),
    ("go", ONE), ("end",), ("end", 1), ("end", "done"), ("end", None), ("end", ONE, ONE), ("end", (ONE,)), ("end", "work", ()),
    ["go", "work", ()], ["end", ONE], ("goes", "work", ()), ("ends", ONE), ("tell", ONE), ("link", ONE), ("ask", "work", ()),
    (("end",), ONE), (None, ONE), ("go", "work", ((ONE,),)), ("go", ("work",), ()),
)
NO_ARMS = (
    ("hit", (), ONE, ()), ("hit", (), ONE, (), NEXTS[2], ()), ("Hit", (), ONE, (), NEXTS[2]), (1, (), ONE, (), NEXTS[2]),
    ("hit", ("a", "a"), ONE, (), NEXTS[2]), ("hit", ("a", "b", "a"), ONE, (), NEXTS[2]), ("hit", "a", ONE, (), NEXTS[2]),
    ("hit", ("A",), ONE, (), NEXTS[2]), ("hit", (1,), ONE, (), NEXTS[2]), ("hit", ["a"], ONE, (), NEXTS[2]),
    ("hit", None, ONE, (), NEXTS[2]), ("hit", (), 1, (), NEXTS[2]), ("hit", (), None, (), NEXTS[2]),
    ("hit", (), True, (), NEXTS[2]), ("hit", (), ONE, None, NEXTS[2]), ("hit", (), ONE, ACTS[0], NEXTS[2]),
    ("hit", (), ONE, [ACTS[0]], NEXTS[2]), ("hit", (), ONE, (ONE,), NEXTS[2]), ("hit", (), ONE, (NEXTS[2],), NEXTS[2]),
    ("hit", (), ONE, (), ACTS[0]), ("hit", (), ONE, (), None), ("hit", (), ONE, (), (NEXTS[2],)), ("hit", (), ONE, NEXTS[2], ()),
    ("hit", ONE, (), (), NEXTS[2]), ("", (), ONE, (), NEXTS[2]), ("hit", ("",), ONE, (), NEXTS[2]),
    ("hit", (("a",),), ONE, (), NEXTS[2]), ("hit", (True,), ONE, (), NEXTS[2]), ("hit", ([],), ONE, (), NEXTS[2]),
    ("hit", ([], []), ONE, (), NEXTS[2]), ["hit", (), ONE, (), NEXTS[2]],
)
NO_LATES = (
    None, (ONE, ()), (ONE, (), NEXTS[2], ()), (1, (), NEXTS[2]), (None, (), NEXTS[2]), (True, (), NEXTS[2]),
    (ONE, None, NEXTS[2]), (ONE, ACTS[0], NEXTS[2]), (ONE, (), ACTS[0]), (ONE, (), None), (ONE, (), (NEXTS[2],)),
    ((), ONE, NEXTS[2]), (ONE, [], NEXTS[2]), [ONE, (), NEXTS[2]], (ONE, (NEXTS[2],), NEXTS[2]),
)
NO_BEHAVIOURS = (
    ("rest", (), ()), ("rest", (), (), None, None), ("Rest", (), (), None), ("", (), (), None), (1, (), (), None),
    (True, (), (), None), ("abcdefghi", (), (), None), ("rest", ("n", "n"), (), None), ("rest", ("a", "b", "c", "b"), (), None),
    ("rest", "n", (), None), ("rest", None, (), None), ("rest", ("N",), (), None), ("rest", (1,), (), None),
    ("rest", ["n"], (), None), ("rest", (), None, None), ("rest", (), ARMS[1], None), ("rest", (), [ARMS[1]], None),
    ("rest", (), (None,), None), ("rest", (), (LATES[0],), None), ("rest", (), (), ()), ("rest", (), (), False),
    ("rest", (), (), 0), ("rest", (), (), ARMS[1]), ("rest", (), (), (LATES[0],)), ("rest", (), LATES[0], None),
    ["rest", (), (), None], ("rest", (), (), "none"), (("rest",), (), (), None), ("rest", ([],), (), None),
    ("rest", ([], []), (), None), (None, (), (), None), ("rest", (), (), (ONE, (), None)),
)


class Kinds(unittest.TestCase):
    def test_good_ones_are_of_their_kind_alone(self):
        for kind, things in GOOD.items():
            for thing in things:
                for other, test in TESTS.items():
                    self.assertIs(test(thing), other == kind, (other, thing))

    def test_wrong_ones(self):
        wrong = {"act": NO_ACTS, "next": NO_NEXTS, "arm": NO_ARMS, "late": NO_LATES, "behaviour": NO_BEHAVIOURS}
        for kind, things in wrong.items():
            for thing in things:
                self.assertIs(TESTS[kind](thing), False, (kind, thing))

    def test_spoiled_ones(self):
        for kind, things in GOOD.items():
            for good in things:
                for thing in spoiled(good):
                    self.assertIs(TESTS[kind](thing), False, (kind, thing))

    def test_lacking_parts(self):
        for kind, things in GOOD.items():
            for good in things:
                self.assertIs(TESTS[kind](good[:-1]), False, (kind, good))
                self.assertIs(TESTS[kind](good[1:]), False, (kind, good))

    def test_any_other_thing_is_none_of_them(self):
        for thing in (*NOTHINGS, 0, 1, -1, TOP, "a", "send", "end", ("at", 0, 0), ("hit", ()), ("hit", (1,)), *SUMS, CODE):
            for kind, test in TESTS.items():
                self.assertIs(test(thing), False, (kind, thing))

    def test_each_how(self):
        for how in ("free", "linked", "watched"):
            self.assertIs(is_act(("make", "k", "work", (), how)), True)

    def test_beyond_the_bounds(self):
        names = tuple([a + b for a in "abcdefgh" for b in "abcdefgh"])
        sums = (deep_sum(30), ("is", TOP), ("is", -TOP)) + (ONE,) * 40
        acts = (("send", deep_sum(30), "hit", sums),) * 20 + (("make", "k", "nobody", sums, "free"),)
        arm = ("hit", names, deep_sum(30), acts, ("go", "nobody", sums))
        late = (deep_sum(30), acts, ("go", "nobody", ()))
        self.assertIs(is_act(acts[0]), True)
        self.assertIs(is_next(arm[4]), True)
        self.assertIs(is_arm(arm), True)
        self.assertIs(is_late(late), True)
        self.assertIs(is_behaviour(("rest", names, (arm,) * 9, late)), True)
        self.assertIs(is_behaviour(("rest", (*names, "aa"), (arm,) * 9, late)), False)
        self.assertIs(is_arm(("hit", (*names, "hh"), *arm[2:])), False)

    def test_by_what_stands_in_it_alone(self):
        lost = ("rest", ("a",), (("hit", (), ONE, (("make", "k", "nobody", (ONE,), "free"),), ("go", "rest", ())),), None)
        self.assertIs(is_behaviour(lost), True)

    def test_a_name_may_be_among_params_and_names(self):
        self.assertIs(is_behaviour(("rest", ("a",), (("hit", ("a",), ONE, (), NEXTS[2]),), None)), True)

    def test_words_of_the_trees_are_free_as_names(self):
        behaviour = ("none", ("self", "arm"), (("be", ("of", "is"), ("of", "of"), (("ask", "end", "go"),), ("go", "end", ())),), None)
        self.assertIs(is_behaviour(behaviour), True)

    def test_within_one_another(self):
        for test in TESTS.values():
            for good in (ACTS[0], NEXTS[0], ARMS[0], LATES[0], BEHAVIOURS[1]):
                self.assertIs(test(nested(good, 20)), False)

    def test_made_up_ones(self):
        maker = Maker(13)
        for _ in range(60):
            for behaviour in maker.code():
                self.assertIs(is_behaviour(behaviour), True)

    def test_lists_are_not_changed(self):
        thing = ["rest", [["a"]], ["hit"], None]
        for test in TESTS.values():
            test(thing)
            test(tuple(thing))
        self.assertEqual(thing, ["rest", [["a"]], ["hit"], None])

    def test_by_name(self):
        for kind, things in GOOD.items():
            self.assertIs(TESTS[kind](thing=things[0]), True)


class Namings(unittest.TestCase):
    def test_none(self):
        self.assertEqual(namings(("rest", (), (), None)), ())
        self.assertEqual(namings(("rest", (), (("hit", (), ONE, (), ("end", ONE)),), (ONE, (), ("end", ONE)))), ())

    def test_order(self):
        def make(name, many):
            return ("make", "k", name, (ONE,) * many, "free")

        one = ("hit", (), ONE, (make("zz", 1), ("tell", ONE), make("aa", 2)), ("go", "mm", (ONE,) * 3))
        two = ("bye", (), ONE, (make("bb", 0), make("bb", 0)), ("end", ONE))
        three = ("hit", (), ONE, (), ("go", "zz", ()))
        late = (ONE, (make("cc", 4), make("zz", 1)), ("go", "aa", (ONE,)))
        told = namings(("rest", ("a",), (one, two, three), late))
        expected = (("zz", 1), ("aa", 2), ("mm", 3), ("bb", 0), ("bb", 0), ("zz", 0), ("cc", 4), ("zz", 1), ("aa", 1))
        self.assertEqual(told, expected)

    def test_late_without_arms(self):
        self.assertEqual(namings(("rest", (), (), (ONE, (), ("go", "rest", ())))), (("rest", 0),))

    def test_other_acts_name_nobody(self):
        acts = tuple([act for act in ACTS if act[0] != "make"])
        self.assertEqual(namings(("rest", (), (("hit", (), ONE, acts, ("end", ONE)),), (ONE, acts, ("end", ONE)))), ())

    def test_of_all_sorts(self):
        made = (("work", 1), ("rest", 0), ("work", 1))
        self.assertEqual(namings(BEHAVIOURS[2]), (*made, ("work", 1), ("rest", 0), *made, ("work", 1)))

    def test_kinds(self):
        told = namings(behaviour=BEHAVIOURS[2])
        self.assertEqual(kinds_of(told), {tuple, str, int})
        self.assertTrue(all(type(pair) is tuple and len(pair) == 2 for pair in told))
