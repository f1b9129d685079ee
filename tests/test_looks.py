"""Point 15: whether any thing is code, what is wrong with it first, and the behaviour of a name."""

import unittest

from letterfolk.errors import NoCode
from letterfolk.looks import behaviour_at, is_code, lets_code
from making import ARMS, BEHAVIOURS, CODE, NOTHINGS, TOP, Maker, nested, spoiled

ONE = ("is", 1)


def make(name, many):
    return ("make", "k", name, (ONE,) * many, "free")


def go(name, many):
    return ("go", name, (ONE,) * many)


def arm(*acts, last=("end", ONE)):
    return ("hit", (), ONE, acts, last)


def rest(name, params=(), arms=(), late=None):
    return (name, params, arms, late)


class Looks(unittest.TestCase):
    def check(self, thing, word, at):
        self.assertIs(is_code(thing), False)
        with self.assertRaises(NoCode) as caught:
            lets_code(thing)
        self.assertEqual((caught.exception.word, caught.exception.at), (word, at))
        self.assertIs(type(caught.exception.at), type(at))

    def check_good(self, thing):
        self.assertIs(is_code(thing), True)
        self.assertIs(lets_code(thing), True)

    def test_code(self):
        self.check_good(CODE)
        self.check_good((rest("a"),))
        self.check_good((rest("a"), rest("ab"), rest("b")))
        self.check_good((rest("a", ("p",), (arm(make("b", 2), last=go("a", 1)),)), rest("b", ("p", "q"), (), (ONE, (), go("b", 2)))))

    def test_made_up_code(self):
        maker = Maker(14)
        for _ in range(60):
            self.check_good(maker.code())

    def test_no_tuple_of_behaviours(self):
        for thing in (*NOTHINGS, 0, 1, "a", CODE[0], list(CODE), (CODE,), (*CODE, None), (None, *CODE), [], ()):
            self.check(thing, "shape", -1)
        for thing in spoiled(CODE):
            self.check(thing, "shape", -1)
        for thing in (nested(CODE, 20), (CODE[0], list(CODE[1])), (ARMS[0],)):
            self.check(thing, "shape", -1)

    def test_not_rising(self):
        self.check((rest("b"), rest("a")), "rising", 1)
        self.check((rest("a"), rest("a")), "rising", 1)
        self.check((rest("a"), rest("b"), rest("b"), rest("a")), "rising", 2)
        self.check((rest("a"), rest("c"), rest("b"), rest("d"), rest("a")), "rising", 2)
        self.check((rest("ab"), rest("a")), "rising", 1)
        self.check((rest("a"), rest("b"), rest("c"), rest("a")), "rising", 3)

    def test_names_are_above_those_just_ahead(self):
        self.check((rest("c"), rest("a"), rest("b")), "rising", 1)

    def test_like_names_of_unlike_behaviours(self):
        self.check((rest("a"), rest("a", ("p",))), "rising", 1)
        self.check((rest("a", ("p",)), rest("a")), "rising", 1)

    def test_nobody_of_this_name(self):
        self.check((rest("a", (), (arm(last=go("b", 0)),)),), "there", (0, 0))
        self.check((rest("a", (), (arm(make("c", 0)),)), rest("b")), "there", (0, 0))
        code = (rest("a"), rest("b", (), (arm(make("a", 0), make("b", 0), make("c", 0), last=go("d", 0)),)))
        self.check(code, "there", (1, 2))
        self.check((rest("a"), rest("b", (), (), (ONE, (), go("c", 0)))), "there", (1, 0))

    def test_another_many(self):
        self.check((rest("a", ("p",), (arm(last=go("a", 0)),)),), "many", (0, 0))
        self.check((rest("a", ("p",), (arm(last=go("a", 2)),)),), "many", (0, 0))
        self.check((rest("a"), rest("b", ("p", "q"), (arm(make("b", 2), make("a", 0), make("b", 1)),))), "many", (1, 2))
        self.check((rest("a"), rest("b", (), (arm(),), (ONE, (make("a", 0),), go("a", 1)))), "many", (1, 1))

    def test_namings_are_counted_over_all_arms(self):
        arms = (arm(make("a", 0), last=go("a", 0)), arm(), arm(make("a", 0), last=go("a", 0)))
        self.check((rest("a", (), arms, (ONE, (make("a", 0),), go("b", 0))),), "there", (0, 5))
        self.check((rest("a", (), arms, (ONE, (make("a", 1),), go("b", 0))),), "many", (0, 4))

    def test_the_first_is_told(self):
        both = (rest("a", (), (arm(make("a", 1), last=go("z", 0)),)), rest("b", (), (arm(make("y", 0)),)))
        self.check(both, "many", (0, 0))
        other = (rest("a", (), (arm(make("z", 0), last=go("a", 1)),)), rest("b", (), (arm(make("b", 1)),)))
        self.check(other, "there", (0, 0))
        later = (rest("a"), rest("b", (), (arm(make("b", 1)),)), rest("c", (), (arm(make("y", 0)),)))
        self.check(later, "many", (1, 0))

    def test_shape_is_ahead_of_rising_ahead_of_namings(self):
        lost = rest("b", (), (arm(make("z", 0)),))
        self.check((lost, rest("a")), "rising", 1)
        self.check((lost, rest("a"), None), "shape", -1)
        self.check((lost, lost, lost), "rising", 1)

    def test_elder_and_later_ones_are_there(self):
        self.check_good((rest("a", (), (arm(last=go("b", 0)),)), rest("b", (), (arm(last=go("a", 0)),))))

    def test_beyond_the_bounds(self):
        names = [a + b + c for a in "abcdefghijklmnopqrst" for b in "abcdefghij" for c in "abcdefghij"]
        params = tuple(names[:30])
        code = tuple([rest(name, params, (arm(make(name, 30), last=go(names[0], 30)),)) for name in names])
        self.check_good(code)
        self.check((*code[:-1], rest(code[-1][0], params, (arm(make("aaa", 30), last=go("zzz", 30)),))), "there", (1999, 1))
        self.check((*code, code[0]), "rising", 2000)
        self.check((*code, None), "shape", -1)
        self.check_good((rest("a", (), (("hit", (), ("is", TOP), (), ("end", ("is", -TOP))),)),))

    def test_things_are_not_changed(self):
        thing = [["a", [], [], None]]
        self.check(thing, "shape", -1)
        self.assertEqual(thing, [["a", [], [], None]])

    def test_by_name(self):
        self.assertIs(is_code(thing=CODE), True)
        self.assertIs(lets_code(thing=CODE), True)


class BehaviourAt(unittest.TestCase):
    def test_each_of_the_code(self):
        for code in (CODE, (rest("a"), rest("b", ("p",)), rest("c", ("p", "q")))):
            for behaviour in code:
                self.assertEqual(behaviour_at(code, behaviour[0]), behaviour)
        self.assertEqual(behaviour_at(name="rest", code=CODE), BEHAVIOURS[1])

    def test_no_such_name(self):
        things = ("res", "rests", "Rest", "", "a", None, True, False, 0, 1, -1, ("rest",), ["rest"], (), [], CODE[0], CODE, TOP)
        for thing in (*things, *NOTHINGS):
            with self.assertRaises(NoCode) as caught:
                behaviour_at(CODE, thing)
            self.assertEqual(caught.exception.word, "there")
            self.assertIs(caught.exception.at, thing)

    def test_the_very_thing(self):
        thing = ["rest", ["a"]]
        with self.assertRaises(NoCode) as caught:
            behaviour_at(CODE, thing)
        self.assertIs(caught.exception.at, thing)
        self.assertEqual(thing, ["rest", ["a"]])
