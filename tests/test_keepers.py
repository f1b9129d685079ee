"""Point 44: whether any thing is a plan of a library."""

import unittest

from founding import ANY, LIBRARY, Founder, at
from letterfolk.keepers import is_plan
from making import CODE, NOTHINGS, TOP, places, replaced, spoiled

REST = ("rest", (), 0)
COUNT = ("count", (5,), 0)
PLAN = ("plan", "one", 1, 2, (REST, None, COUNT))
NESTED = ("plan", "rest", 0, 1, (PLAN, ("plan", "all", 3, 9, (("plan", "one", 2, 3, (COUNT,)), None)), REST))


def of(*rows):
    """A plan of these rows."""
    return ("plan", "all", 1, 2, rows)


class IsPlan(unittest.TestCase):
    def check(self, thing, told, library=LIBRARY):
        self.assertIs(is_plan(library, thing), told, str(thing)[:200])

    def test_plans(self):
        for thing in (PLAN, NESTED, of(), of(None), of(None, None), of(REST), of(of()), of(of(of(None)))):
            self.check(thing, True)
        self.assertIs(is_plan(thing=PLAN, library=LIBRARY), True)

    def test_made_up_ones(self):
        founder = Founder(44)
        for _ in range(100):
            library = founder.library(4)
            self.check(founder.plan(library), True, library)

    def test_ways(self):
        for way in ("one", "all", "rest"):
            self.check(("plan", way, 1, 2, (REST,)), True)
        for way in ("none", "two", "ONE", "", "plan", "keeper", None, True, 1, ("one",), ["one"], b"one"):
            self.check(("plan", way, 1, 2, (REST,)), False)

    def test_most(self):
        for most in (0, 1, 2, 9, 1000, TOP):
            self.check(("plan", "one", most, 2, (REST,)), True)
        for most in (-1, -TOP, True, False, None, "1", (), (1,), [1]):
            self.check(("plan", "one", most, 2, (REST,)), False)

    def test_within(self):
        for within in (1, 2, 9, 1000, TOP):
            self.check(("plan", "one", 1, within, (REST,)), True)
        for within in (0, -1, -TOP, True, False, None, "1", (), (1,), [1]):
            self.check(("plan", "one", 1, within, (REST,)), False)

    def test_rows(self):
        for rows in ((), (None,), (None,) * 50, (REST,) * 50, (REST, None, PLAN), (PLAN, PLAN)):
            self.check(("plan", "one", 1, 2, rows), True)
        for rows in (None, [], [REST], REST, "a", 0, True, (True,), (False,), (0,), ([],), ((),), ([*REST],), (REST, []), (PLAN, [*PLAN])):
            self.check(("plan", "one", 1, 2, rows), False)

    def test_word_and_many(self):
        for word in ("plans", "Plan", "keeper", "", None, True, ("plan",)):
            self.check((word, "one", 1, 2, (REST,)), False)
        for k in range(5):
            self.check(PLAN[:k], False)
        self.check((*PLAN, None), False)
        self.check((*PLAN, (), ()), False)
        self.check(("keeper", "one", 1, 2, (REST,), (None,), ()), False)
        self.check([*PLAN], False)

    def test_states(self):
        states = (
            (REST, True), (COUNT, True), (("count", (5, 7), 1), True), (("tally", (-3,), 2), True), (("tally", ("red", at(1)), 3), True),
            (("count", (5,), 4), False), (("count", (5,), -1), False), (("count", (5,), TOP), False), (("count", (5,), 1), False),
            (("count", (5, 7), 0), False), (("count", (), 0), False), (("none", (), 0), False), (("tally", (1,), 0), False), (("rest", (), 2), False),
            (("count", (5,), True), False), (("count", (5,), False), False), (("count", (5,), None), False), (("count", (5,), "0"), False),
            (("count", [5], 0), False), (["count", (5,), 0], False), (("count", (True,), 0), False), (("count", (None,), 0), False),
            (("count", ("Red",), 0), False), (("count", ((),), 0), False), (("count", 5, 0), False), (("count", "a", 0), False),
            ((None, (), 0), False), ((("rest",), (), 0), False), ((["rest"], (), 0), False), (("rest", (), 0, 0), False), (("rest", ()), False),
            (("rest", None, 0), False), (("rest", (), (0,)), False), (("rest", (), [0]), False), (("count", (("at", True, 0),), 0), False),
        )
        for state, told in states:
            self.check(of(state), told)
            self.check(of(REST, None, state), told)
            self.check(of(of(of(state))), told)

    def test_a_state_is_no_plan(self):
        for thing in (REST, COUNT, None, (REST,), (PLAN,)):
            self.check(thing, False)

    def test_behaviours_called_keeper_and_plan(self):
        self.check(of(("keeper", (1, 2, 3), 2), ("plan", (), 3)), True)
        self.check(of(("plan", (), 2)), False)
        self.check(of(("keeper", (1, 2), 2)), False)
        self.check(("plan", (), 3), False)

    def test_each_place_made_wrong(self):
        # Rows with more Nones behind them are rows, too; these alone are plans.
        rows = [(path, part) for path, part in places(NESTED) if len(path) % 2 and set(path[::2]) == {4}]
        longer = [replaced(NESTED, path, (*part, *[None] * many)) for path, part in rows for many in range(1, 6)]
        self.assertEqual(len(longer), 20)
        for thing in spoiled(NESTED):
            self.check(thing, thing in longer)

    def test_any_thing(self):
        for thing in (*NOTHINGS, *ANY, CODE, LIBRARY):
            self.check(thing, False)
            if thing is not None:
                self.check(of(thing), False)
                self.check(of(REST, of(thing)), False)

    def test_whatever_bounds(self):
        deep = of(REST)
        for _ in range(15):
            deep = of(deep, None)
        self.check(deep, True)
        wrong = of(("rest", (), 9))
        for _ in range(15):
            wrong = of(None, wrong)
        self.check(wrong, False)
        self.check(of(*[COUNT] * 3000), True)
        self.check(of(*[COUNT] * 3000, True), False)
        self.check(of(("count", (TOP,), 0), ("count", (-TOP,), 0)), True)

    def test_by_the_library(self):
        self.check(of(("count", (5, 7), 1)), False, LIBRARY[:1])
        self.check(of(COUNT), True, LIBRARY[:1])

    def test_what_is_handed_in_stays(self):
        thing = ["plan", "one", 1, 2, [["rest", [], 0]]]
        self.check(thing, False)
        self.assertEqual(thing, ["plan", "one", 1, 2, [["rest", [], 0]]])


if __name__ == "__main__":
    unittest.main()
