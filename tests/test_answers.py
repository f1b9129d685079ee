"""Points 44 and 46: what a keeper does of which a child ended, or that falls."""

import unittest

from founding import ANY, Founder, at
from letterfolk.answers import answer, falling, is_child, placed
from letterfolk.spacing import breach_of
from making import kinds_of

ROW = ("rest", (), 0)
PLAN = ("plan", "one", 1, 2, (ROW,))
A, B, C, D = at(7), at(3), at(9), at(5)
NOBODY = at(20)


def keeper(way="one", most=9, within=5, now=(A, B, C, D), past=(), rows=None):
    """A keeper of as many rows as now."""
    return ("keeper", way, most, within, (ROW,) * len(now) if rows is None else rows, now, past)


class IsChild(unittest.TestCase):
    def test_children(self):
        one = keeper(now=(A, None, B))
        self.assertIs(is_child(one, A), True)
        self.assertIs(is_child(one, B), True)
        self.assertIs(is_child(address=B, keeper=one), True)

    def test_others(self):
        for now in ((A, None, B), (None,), (None, None), (), (A,)):
            self.assertIs(is_child(keeper(now=now), NOBODY), False)
            self.assertIs(is_child(keeper(now=now), C), False)
            self.assertIs(is_child(keeper(now=now), ("at", 1, 7)), False)

    def test_none_is_nobodys_address(self):
        for now in ((A, None, B), (None,)):
            self.assertIs(is_child(keeper(now=now), None), False)
        for thing in ANY:
            self.assertIs(is_child(keeper(now=(at(0), at(1), None)), thing), False)
        self.assertIs(is_child(keeper(now=(at(1),)), ("at", False, True)), False)


class Placed(unittest.TestCase):
    def test_each_place(self):
        self.assertEqual(placed(keeper(now=(None, B, None)), 0, A), keeper(now=(A, B, None)))
        self.assertEqual(placed(keeper(now=(None, B, None)), 1, A), keeper(now=(None, A, None)))
        self.assertEqual(placed(keeper(now=(None, B, None), past=(1, 4)), 2, A), keeper(now=(None, B, A), past=(1, 4)))
        self.assertEqual(placed(address=C, k=0, keeper=keeper(now=(A,))), keeper(now=(C,)))

    def test_kinds_and_what_was_handed_in(self):
        one = keeper(now=(None, B))
        told = placed(one, 0, A)
        self.assertEqual(one, keeper(now=(None, B)))
        self.assertIs(type(told[5]), tuple)
        self.assertEqual(told[4], one[4])


class Falling(unittest.TestCase):
    def test_with_children(self):
        told, deeds = falling(keeper(), "bad")
        self.assertEqual(told, keeper(now=(None,) * 4))
        self.assertEqual(deeds, (("end", D, "shut"), ("end", C, "shut"), ("end", B, "shut"), ("end", A, "shut"), ("fall", "bad")))

    def test_children_that_live_alone_are_shut(self):
        told, deeds = falling(keeper(way="all", now=(None, A, None, B)), "done")
        self.assertEqual(told, keeper(way="all", now=(None,) * 4))
        self.assertEqual(deeds, (("end", B, "shut"), ("end", A, "shut"), ("fall", "done")))

    def test_without_children(self):
        for now in ((), (None,), (None, None, None)):
            self.assertEqual(falling(keeper(now=now, past=(3,)), "old"), (keeper(now=now, past=(3,)), (("fall", "old"),)))

    def test_a_row_none_whose_child_lives(self):
        one = keeper(now=(A, B, None), rows=(ROW, None, ROW))
        told, deeds = falling(reason="bad", keeper=one)
        self.assertEqual(told, keeper(now=(None,) * 3, rows=(ROW, None, ROW)))
        self.assertEqual(deeds, (("end", B, "shut"), ("end", A, "shut"), ("fall", "bad")))

    def test_rows_and_past_stay(self):
        for way in ("one", "all", "rest"):
            one = keeper(way=way, most=2, within=3, now=(A, None), past=(1, 2), rows=(PLAN, ROW))
            self.assertEqual(falling(one, "bad"), (keeper(way=way, most=2, within=3, now=(None, None), past=(1, 2), rows=(PLAN, ROW)),
                                                   (("end", A, "shut"), ("fall", "bad"))))


class Answer(unittest.TestCase):
    def check(self, one, address, reason, told, deeds, clock=10):
        found = answer(one, address, reason, clock=clock)
        self.assertEqual(found, (told, deeds))
        self.assertEqual(kinds_of(found) - {int, str, tuple, type(None)}, set())

    def test_no_child_that_is_done(self):
        for one in (keeper(), keeper(way="all", now=()), keeper(way="rest", most=0, now=(None, A), past=(10,))):
            self.check(one, NOBODY, "done", one, ())

    def test_no_child_by_another_reason(self):
        for reason in ("odd", "old", "shut", "beyond", "parted", "gone"):
            self.check(keeper(way="all", now=(A, None, B), past=(1,)), NOBODY, reason, keeper(way="all", now=(None,) * 3, past=(1,)),
                       (("end", B, "shut"), ("end", A, "shut"), ("fall", reason)))
        self.check(keeper(now=()), NOBODY, "odd", keeper(now=()), (("fall", "odd"),))

    def test_one_of_another_house_is_no_child(self):
        self.check(keeper(now=(A,)), ("at", 1, 7), "odd", keeper(now=(None,)), (("end", A, "shut"), ("fall", "odd")))
        self.check(keeper(now=(A,)), ("at", 1, 7), "done", keeper(now=(A,)), ())

    def test_a_child_that_is_done(self):
        for way in ("one", "all", "rest"):
            self.check(keeper(way=way), B, "done", keeper(way=way, now=(A, None, C, D)), ())
            # It isn't counted, however near others were.
            self.check(keeper(way=way, most=0, past=(10,)), A, "done", keeper(way=way, most=0, past=(10,), now=(None, B, C, D)), ())

    def test_a_child_of_a_row_none(self):
        rows = (ROW, None, ROW)
        for way in ("one", "all", "rest"):
            for reason in ("done", "old", "odd", "shut"):
                one = keeper(way=way, most=0, now=(A, B, C), rows=rows, past=(9,))
                self.check(one, B, reason, keeper(way=way, most=0, now=(A, None, C), rows=rows, past=(9,)), ())

    def test_by_old(self):
        for way in ("one", "all", "rest"):
            for most in (0, 3):
                one = keeper(way=way, most=most, past=(10,))
                self.check(one, C, "old", keeper(way=way, most=most, past=(10,), now=(A, B, None, D)), (("begin", 2),))

    def test_one(self):
        for reason in ("odd", "shut", "beyond", "red"):
            self.check(keeper(past=(8,)), B, reason, keeper(now=(A, None, C, D), past=(8, 10)), (("begin", 1),))

    def test_all(self):
        self.check(keeper(way="all"), B, "odd", keeper(way="all", now=(None,) * 4, past=(10,)), (
            ("end", D, "shut"), ("end", C, "shut"), ("end", A, "shut"), ("begin", 0), ("begin", 1), ("begin", 2), ("begin", 3)))

    def test_rest(self):
        self.check(keeper(way="rest"), B, "odd", keeper(way="rest", now=(A, None, None, None), past=(10,)), (
            ("end", D, "shut"), ("end", C, "shut"), ("begin", 1), ("begin", 2), ("begin", 3)))
        self.check(keeper(way="rest"), A, "odd", keeper(way="rest", now=(None,) * 4, past=(10,)), (
            ("end", D, "shut"), ("end", C, "shut"), ("end", B, "shut"), ("begin", 0), ("begin", 1), ("begin", 2), ("begin", 3)))
        self.check(keeper(way="rest"), D, "odd", keeper(way="rest", now=(A, B, C, None), past=(10,)), (("begin", 3),))

    def test_those_that_live_no_more_stay_so(self):
        now = (None, A, None, B, C, None)
        self.check(keeper(way="all", now=now), B, "odd", keeper(way="all", now=(None,) * 6, past=(10,)), (
            ("end", C, "shut"), ("end", A, "shut"), ("begin", 1), ("begin", 3), ("begin", 4)))
        self.check(keeper(way="rest", now=now), A, "odd", keeper(way="rest", now=(None,) * 6, past=(10,)), (
            ("end", C, "shut"), ("end", B, "shut"), ("begin", 1), ("begin", 3), ("begin", 4)))
        self.check(keeper(way="rest", now=now), B, "odd", keeper(way="rest", now=(None, A, None, None, None, None), past=(10,)), (
            ("end", C, "shut"), ("begin", 3), ("begin", 4)))

    def test_others_of_a_row_none_are_shut_and_not_begun(self):
        rows = (None, ROW, None, PLAN)
        self.check(keeper(way="all", rows=rows), B, "odd", keeper(way="all", rows=rows, now=(None,) * 4, past=(10,)), (
            ("end", D, "shut"), ("end", C, "shut"), ("end", A, "shut"), ("begin", 1), ("begin", 3)))
        self.check(keeper(way="rest", rows=rows), B, "odd", keeper(way="rest", rows=rows, now=(A, None, None, None), past=(10,)), (
            ("end", D, "shut"), ("end", C, "shut"), ("begin", 1), ("begin", 3)))

    def test_ends_are_in_the_order_of_rows_not_of_addresses(self):
        for now in ((A, B, C, D), (D, C, B, A), (B, D, A, C)):
            _, deeds = answer(keeper(way="all", now=now), now[0], "odd", clock=0)
            self.assertEqual(deeds[:3], tuple([("end", address, "shut") for address in now[:0:-1]]))

    def test_counting_at_the_edge_of_within(self):
        for tick, stays in ((10, True), (9, True), (6, True), (5, False), (4, False), (0, False)):
            past = (tick, 10) if stays else (10,)
            self.check(keeper(now=(A,), within=5, past=(tick,)), A, "odd", keeper(now=(None,), within=5, past=past), (("begin", 0),))
        self.check(keeper(now=(A,), within=1, past=(9, 10, 10)), A, "odd", keeper(now=(None,), within=1, past=(10, 10, 10)), (("begin", 0),))
        self.check(keeper(now=(A,), within=3, past=(1, 7, 7, 8, 9)), A, "odd", keeper(now=(None,), within=3, past=(8, 9, 10)), (("begin", 0),))

    def test_counting_at_the_edge_of_most(self):
        # With the clock behind there are three.
        for most, falls in ((2, True), (3, False), (4, False), (0, True)):
            one = keeper(way="one", now=(A, B), most=most, past=(1, 8, 9))
            now, deeds = ((None, None), (("end", B, "shut"), ("fall", "beyond"))) if falls else ((None, B), (("begin", 0),))
            self.check(one, A, "odd", keeper(way="one", now=now, most=most, past=(8, 9, 10)), deeds)

    def test_most_none_falls_at_once(self):
        for way in ("one", "all", "rest"):
            one = keeper(way=way, most=0, now=(A, B, None), rows=(ROW, None, ROW))
            self.check(one, A, "odd", keeper(way=way, most=0, now=(None,) * 3, rows=(ROW, None, ROW), past=(10,)), (("end", B, "shut"), ("fall", "beyond")))

    def test_beyond_keeps_its_past_as_counted(self):
        one = keeper(way="all", most=1, within=4, past=(2, 6, 7, 9))
        self.check(one, D, "odd", keeper(way="all", most=1, within=4, now=(None,) * 4, past=(7, 9, 10)), (
            ("end", C, "shut"), ("end", B, "shut"), ("end", A, "shut"), ("fall", "beyond")))

    def test_by_names_and_what_was_handed_in(self):
        one = keeper(way="all", past=(1, 9))
        told = answer(clock=10, reason="odd", address=A, keeper=one)
        self.assertEqual(told[0], keeper(way="all", now=(None,) * 4, past=(9, 10)))
        self.assertEqual(one, keeper(way="all", past=(1, 9)))
        with self.assertRaises(TypeError):
            answer(one, A, "odd", 10)

    def test_it_falls_beyond_where_its_ticks_have_a_breach(self):
        founder = Founder(46)
        counts = {True: 0, False: 0}
        for _ in range(300):
            most, within = founder.chance.randrange(4), founder.chance.randrange(1, 6)
            ticks = sorted([founder.chance.randrange(25) for _ in range(founder.chance.randrange(1, 8))])
            one, fell = keeper(most=most, within=within, now=(A,)), None
            for place, clock in enumerate(ticks):
                one, deeds = answer(placed(one, 0, A), A, "odd", clock=clock)
                if deeds[-1] == ("fall", "beyond"):
                    fell = place
                    break
                self.assertEqual(deeds, (("begin", 0),))
                self.assertLessEqual(len(one[6]), most)
            breach = breach_of(tuple(ticks), most=most, within=within)
            self.assertEqual(breach is None, fell is None)
            self.assertIsNone(breach_of(tuple(ticks[:fell]) if fell is not None else tuple(ticks), most=most, within=within))
            counts[fell is None] += 1
        self.assertGreater(min(counts.values()), 50)


if __name__ == "__main__":
    unittest.main()
