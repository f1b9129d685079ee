"""Point 45: the lives that come of a row."""

import unittest

from founding import LIBRARY, Founder, at
from letterfolk.beginnings import begun
from letterfolk.keepers import is_plan
from making import kinds_of

REST = ("rest", (), 0)
COUNT = ("count", (5,), 0)


class Begun(unittest.TestCase):
    def test_a_state(self):
        self.assertEqual(begun(REST, house=0, n=0), (((at(0), REST, None),), 1))
        self.assertEqual(begun(COUNT, house=2, n=7), (((at(7, 2), COUNT, None),), 8))
        self.assertEqual(begun(COUNT, house=2, n=7, by=at(3, 2)), (((at(7, 2), COUNT, at(3, 2)),), 8))
        self.assertEqual(begun(COUNT, house=2, n=7, by=None), (((at(7, 2), COUNT, None),), 8))

    def test_a_plan(self):
        plan = ("plan", "rest", 3, 9, (REST, COUNT))
        keeper = ("keeper", "rest", 3, 9, (REST, COUNT), (at(5), at(6)), ())
        self.assertEqual(begun(plan, house=0, n=4), (((at(4), keeper, None), (at(5), REST, at(4)), (at(6), COUNT, at(4))), 7))

    def test_a_row_none(self):
        plan = ("plan", "one", 0, 1, (None, COUNT, None, REST, None))
        keeper = ("keeper", "one", 0, 1, plan[4], (None, at(1), None, at(2), None), ())
        self.assertEqual(begun(plan, house=0, n=0), (((at(0), keeper, None), (at(1), COUNT, at(0)), (at(2), REST, at(0))), 3))

    def test_a_plan_of_no_rows(self):
        for rows in ((), (None,), (None, None)):
            keeper = ("keeper", "all", 2, 3, rows, (None,) * len(rows), ())
            self.assertEqual(begun(("plan", "all", 2, 3, rows), house=1, n=9, by=at(0, 1)), (((at(9, 1), keeper, at(0, 1)),), 10))

    def test_plans_within_plans(self):
        low = ("plan", "one", 1, 2, (REST,))
        mid = ("plan", "all", 2, 3, (COUNT, low, None))
        top = ("plan", "rest", 3, 4, (mid, None, REST, low))
        told, behind = begun(top, house=1, n=10, by=at(2, 1))
        self.assertEqual(told, (
            (at(10, 1), ("keeper", "rest", 3, 4, top[4], (at(11, 1), None, at(15, 1), at(16, 1)), ()), at(2, 1)),
            (at(11, 1), ("keeper", "all", 2, 3, mid[4], (at(12, 1), at(13, 1), None), ()), at(10, 1)),
            (at(12, 1), COUNT, at(11, 1)),
            (at(13, 1), ("keeper", "one", 1, 2, low[4], (at(14, 1),), ()), at(11, 1)),
            (at(14, 1), REST, at(13, 1)),
            (at(15, 1), REST, at(10, 1)),
            (at(16, 1), ("keeper", "one", 1, 2, low[4], (at(17, 1),), ()), at(10, 1)),
            (at(17, 1), REST, at(16, 1)),
        ))
        self.assertEqual(behind, 18)

    def test_states_called_plan_and_keeper(self):
        for state in (("plan", (), 3), ("keeper", (1, 2, 3), 2)):
            self.assertEqual(begun(state, house=0, n=1), (((at(1), state, None),), 2))
            keeper = ("keeper", "one", 1, 2, (state,), (at(1),), ())
            self.assertEqual(begun(("plan", "one", 1, 2, (state,)), house=0, n=0), (((at(0), keeper, None), (at(1), state, at(0))), 2))

    def test_kinds_and_names(self):
        told = begun(by=None, n=0, house=0, row=("plan", "one", 1, 2, (REST, None)))
        self.assertEqual(kinds_of(told), {tuple, str, int, type(None)})
        for wrong in (lambda: begun(REST, 0, 0), lambda: begun(REST, house=0), lambda: begun(REST, n=0)):
            self.assertRaises(TypeError, wrong)

    def test_made_up_ones(self):
        founder = Founder(45)
        for _ in range(120):
            library = founder.library(3)
            plan = founder.plan(library)
            self.assertTrue(is_plan(library, plan))
            house, n = founder.chance.randrange(3), founder.chance.randrange(20)
            told, behind = begun(plan, house=house, n=n)
            # Numbers rise by one, from n on; a keeper's now is of those that it began, in the order of their rows.
            self.assertEqual([address for address, _, _ in told], [at(k, house) for k in range(n, behind)])
            self.assertEqual([by for _, _, by in told].count(None), 1)
            for address, what, _ in told:
                children = [child for child, _, by in told if by == address]
                if len(what) == 7:
                    self.assertEqual([child for child in what[5] if child is not None], children)
                    self.assertEqual([child is None for child in what[5]], [row is None for row in what[4]])
                    self.assertEqual(what[6], ())
                else:
                    self.assertEqual(children, [])
            self.assertEqual(self.rows_of(told, at(n, house)), plan)

    def rows_of(self, told, address):
        """The row that began who lives at the address, as the lives have it."""
        what = [other for one, other, _ in told if one == address][0]
        if len(what) == 3:
            return what
        rows = [None if child is None else self.rows_of(told, child) for child in what[5]]
        self.assertEqual(tuple(rows), what[4])
        return ("plan", *what[1:4], tuple(rows))


if __name__ == "__main__":
    unittest.main()
