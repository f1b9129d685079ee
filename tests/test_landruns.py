"""Points 56, 57, 63, 64 and 65: runs of lands."""

import unittest

from founding import ANY, at, caught, life
from landing import DO, IT, behind, doers, first_land, house_at, letter, life_at, pair_of
from letterfolk.errors import FolkError, NoStep, RunError
from letterfolk.landruns import LIMIT, run, until_quiet
from letterfolk.landsteps import ready_steps, step
from letterfolk.wires import things_on_way
from living import Lively
from letterfolk.lands import land_of
from making import kinds_of

A, B = at(0), at(0, 1)


def ticks(many, h=0):
    return (("tick", h),) * many


class Run(unittest.TestCase):
    def setUp(self):
        self.land = first_land(doers("send @1.0 hit 1", "send @1.0 hit 2"), DO, IT)
        self.steps = (("tick", 0), ("act", 0, 0), ("come", 1), ("again", 0), ("come", 0), ("act", 1, 0), ("part", 0, 1), ("meet", 1, 0), ("fall", 1))

    def by_hand(self, steps):
        land, log = self.land, []
        for thing in steps:
            land, events = step(land, thing)
            log.append((thing, events))
        return land, tuple(log)

    def test_all_and_fewer(self):
        for many in range(len(self.steps) + 1):
            told = self.by_hand(self.steps[:many])
            self.assertEqual(run(self.land, self.steps[:many]), told)
            self.assertEqual(run(self.land, self.steps, most=many), told)
        for most in (len(self.steps), 10, 200, 201, 10 ** 30):
            self.assertEqual(run(self.land, self.steps, most=most), self.by_hand(self.steps))
        self.assertEqual(run(self.land, ()), (self.land, ()))
        self.assertEqual(run(self.land, self.steps, most=0), (self.land, ()))

    def test_parts_one_behind_the_other_come_to_the_same(self):
        whole = run(self.land, self.steps)
        for many in range(len(self.steps) + 1):
            land, log = run(self.land, self.steps[:many])
            land, more = run(land, self.steps[many:])
            self.assertEqual((land, log + more), whole)

    def test_the_limit(self):
        self.assertEqual(LIMIT, 200)
        land, log = run(self.land, ticks(250))
        self.assertEqual((house_at(land, 0)[1], len(log)), (200, 200))
        land, log = run(self.land, ticks(250), most=230)
        self.assertEqual((house_at(land, 0)[1], len(log)), (230, 230))
        self.assertEqual(len(run(self.land, (*ticks(200), None))[1]), 200)

    def test_refused_at_the_first_that_cannot_be_done(self):
        for thing, word in (
                (None, "shape"), (("tick", True), "shape"), (("tick", 2), "house"), (("act", 0, 0), "act"), (("come", 9), "packet"), (("meet", 0, 1), "linked"), (("load", 0, 1), "edition")):
            steps = (*self.steps[:2], thing, ("tick", -1), None)
            self.assertEqual(caught(self, NoStep, run, self.land, steps).word, word)
            # Within most alone.
            self.assertEqual(run(self.land, steps, most=2), self.by_hand(self.steps[:2]))
            self.assertEqual(caught(self, NoStep, run, self.land, steps, most=3).word, word)
        for thing in ANY:
            self.assertEqual(caught(self, NoStep, run, self.land, (thing,)).word, "shape")
        for family in (RunError, FolkError, ValueError):
            with self.assertRaises(family):
                run(self.land, (None,))

    def test_kinds_names_and_what_is_handed_in(self):
        before = repr((self.land, self.steps))
        told = run(steps=self.steps, most=5, land=self.land)
        self.assertEqual(told, run(self.land, self.steps, most=5))
        self.assertEqual(kinds_of(told), {tuple, str, int, bool, type(None)})
        self.assertEqual(repr((self.land, self.steps)), before)
        with self.assertRaises(TypeError):
            run(self.land, self.steps, 5)


class UntilQuiet(unittest.TestCase):
    def setUp(self):
        lines = ("send @1.0 hit 1", "send @ hit 2", "send @1.0 hit 3")
        self.land = behind(first_land(doers(*lines), DO, DO), ("tick", 0), ("tick", 1))

    def by_hand(self, by, most):
        land, log = self.land, []
        for k in range(most):
            choices = ready_steps(land)
            if not choices:
                break
            thing = choices[(by[k] if k < len(by) else 0) % len(choices)]
            land, events = step(land, thing)
            log.append((thing, events))
        return land, tuple(log), ready_steps(land) == ()

    def test_left_out(self):
        land, log, quiet = until_quiet(self.land)
        self.assertIs(quiet, True)
        self.assertEqual(ready_steps(land), ())
        self.assertEqual((land, log, quiet), self.by_hand((), 200))
        self.assertEqual([thing for thing, _ in log][:3], [("act", 0, 0), ("act", 0, 0), ("act", 1, 0)])

    def test_by_numbers(self):
        for by in ((), (0,), (1,), (1, 1, 1), (7, 5, 3, 1), (10 ** 30,) * 4, tuple(range(40)), (2, 0, 0, 3)):
            for most in (0, 1, 3, 4, 9, 200):
                self.assertEqual(until_quiet(self.land, by=by, most=most), self.by_hand(by, most))

    def test_behind_the_end_of_by_the_first_one(self):
        _, log, _ = until_quiet(self.land, by=(1,))
        self.assertEqual([thing for thing, _ in log][:2], [("act", 1, 0), ("act", 0, 0)])

    def test_truth(self):
        _, log, _ = until_quiet(self.land)
        for most in range(len(log) + 3):
            land, done, quiet = until_quiet(self.land, most=most)
            self.assertIs(quiet, most >= len(log))
            self.assertEqual(len(done), min(most, len(log)))
        self.assertEqual(until_quiet(land), (land, (), True))
        self.assertEqual(until_quiet(self.land, most=0), (self.land, (), False))
        self.assertEqual(until_quiet(land, most=0), (land, (), True))

    def test_never_quiet(self):
        library = doers("send @ hit 1")
        (code, table), = library
        again = (code[0], ("it", (), (("hit", ("k",), ("is", 1), (("send", ("self",), "hit", (("is", 1),)),), ("go", "it", ())),), None))
        land = behind(first_land(((again, table),), DO), ("tick", 0), ("act", 0, 0))
        land, log, quiet = until_quiet(land)
        self.assertEqual((len(log), quiet), (200, False))
        self.assertEqual(len(until_quiet(land, most=250)[1]), 250)

    def test_kinds_and_names(self):
        told = until_quiet(most=7, by=(1, 2), land=self.land)
        self.assertEqual(told, until_quiet(self.land, by=(1, 2), most=7))
        self.assertEqual(kinds_of(told), {tuple, str, int, bool, type(None)})
        with self.assertRaises(TypeError):
            until_quiet(self.land, (1, 2))


def given_of(log):
    return [event[1] for _, events in log for event in events if event[0] == "given"]


class Given(unittest.TestCase):
    """Point 65, on made-up runs."""

    def test_by_numbers_once_and_none_behind_a_part(self):
        maker = Lively(65)
        counts = {"given": 0, "kept": 0, "again": 0, "elder": 0}
        for _ in range(40):
            library = maker.library(2)
            start = land_of(library, maker.roots(library))[0]
            steps, lands, log = maker.steps(start, 80)
            seen, links = {}, {}
            for _, events in log:
                for event in events:
                    if event[0] in ("parted", "met"):
                        links[event[1:3]] = (event[3], event[0] == "met")
                    if event[0] == "came" and event[2] != "taken":
                        counts[event[2]] += 1
                    if event[0] == "given":
                        link, sender, to, number, _ = event[1]
                        self.assertEqual(number, seen.get((link, sender, to), 0))
                        seen[(link, sender, to)] = number + 1
                        self.assertEqual(links.get(tuple(sorted((sender[1], to[1]))), (0, True)), (link, True))
                        counts["given"] += 1
        self.assertGreater(min(counts.values()), 5)

    def test_all_where_all_has_come(self):
        maker = Lively(66)
        for _ in range(40):
            library = maker.library(1)
            start = land_of(library, maker.roots(library))[0]
            land = maker.steps(start, 60)[1][-1]
            while land[4]:
                land, _ = step(land, ("come", maker.chance.randrange(len(land[4]))))
            self.assertEqual(things_on_way(land), ())
            for _, _, _, _, rows in land[3]:
                for _, _, sent, given, kept in rows:
                    self.assertEqual((given, kept), (sent, ()))

    def test_words_are_alike_where_nothing_is_on_the_way(self):
        """Point 57."""
        maker = Lively(57)
        maker.houses = 3
        many = 0
        for _ in range(120):
            library = maker.library(1)
            start = land_of(library, maker.roots(library))[0]
            land = maker.steps(start, 50)[1][-1]
            while land[4]:
                land, _ = step(land, ("come", maker.chance.randrange(len(land[4]))))
            for a, b, _, up, _ in land[3]:
                living = {("at", h, n) for h in (a, b) for n, _ in house_at(land, h)[4]}
                own = [{pair for pair in house_at(land, h)[5] if pair[1] in living} for h in (a, b)]
                if up:
                    self.assertEqual(*own)
                    many += len(own[0])
            for house in land[2]:
                numbers = {n for n, _ in house[4]}
                self.assertLessEqual({address[2] for _, address in house[5] if address[1] == house[0]}, numbers)
        self.assertGreater(many, 20)

    def test_one_packet_over_a_part(self):
        land = behind(first_land(doers("send @1.0 hit 1"), DO, IT), ("tick", 0), ("act", 0, 0), ("part", 0, 1), ("meet", 0, 1))
        land, log = run(land, (("come", 0), ("again", 0)))
        self.assertEqual((given_of(log), life_at(land, 1, 0)), ([], life(IT)))
        self.assertEqual(pair_of(land, 0, 1), (0, 1, 1, True, ()))
        self.assertEqual(letter(1), ("letter", 0, ("hit", (1,))))


if __name__ == "__main__":
    unittest.main()
