"""Points 80 to 83: a village."""

import unittest

from founding import ANY, LIBRARY, at, caught
from housing import library_of
from landing import DO, IT, behind, doers, first_land, plan_of
from letterfolk.errors import FolkError, NoBack, NoFolk, NoStep, RunError
from letterfolk.fates import fates_of, losses_of
from letterfolk.landruns import run
from letterfolk.landsteps import ready_steps, step
from letterfolk.plainchecker import lets_plain
from letterfolk.stories import story_of
from letterfolk.thingtexts import shown_steps
from letterfolk.traces import trace_of
from letterfolk.village import Village
from living import Lively
from making import kinds_of

A, B = at(0), at(0, 1)
CODE = doers("send @1.0 hit 1", "send @1.0 hit 2", "tell @")
ROOTS = (DO, IT)
STEPS = (
    ("tick", 0), ("act", 0, 0), ("come", 1), ("again", 0), ("come", 0), ("act", 1, 0), ("part", 0, 1), ("meet", 1, 0), ("fall", 1), ("tick", 1))
REFUSED = (
    (None, "shape"), (("tick", True), "shape"), ([], "shape"), (("tick", 2), "house"), (("act", 1, 0), "act"), (("come", 9), "packet"), (("meet", 0, 1), "linked"), (("load", 0, 1), "edition"))


def village_behind(*steps, library=CODE, roots=ROOTS):
    village = Village(library, roots=roots)
    village.run(steps)
    return village


class Founded(unittest.TestCase):
    def test_at_first(self):
        village = Village(CODE, roots=ROOTS)
        self.assertEqual(village.land(), first_land(CODE, *ROOTS))
        self.assertEqual((village.steps(), village.log(), village.trace(), village.paper(), village.fates(), village.losses()), ((), (), ((), ()), (), (), ()))
        self.assertEqual((village.counts(), len(village), str(village)), ((0, 0), 0, ""))
        self.assertEqual(Village(roots=ROOTS, library=CODE).land(), village.land())
        with self.assertRaises(TypeError):
            Village(CODE, ROOTS)

    def test_each_its_own(self):
        one, other = Village(CODE, roots=ROOTS), Village(CODE, roots=ROOTS)
        one.step(("tick", 0))
        self.assertEqual((len(one), len(other), other.counts()), (1, 0, (0, 0)))
        self.assertEqual(other.land(), first_land(CODE, *ROOTS))

    def test_methods_stand_in_the_class_itself(self):
        for name in (
                "step", "run", "back", "then", "land", "steps", "log", "trace", "paper", "fates", "losses", "story", "counts", "__len__", "__str__", "__eq__"):
            self.assertIn(name, vars(Village))


class Stepped(unittest.TestCase):
    def test_each_step_tells_its_events(self):
        village, land = Village(CODE, roots=ROOTS), first_land(CODE, *ROOTS)
        for k, thing in enumerate(STEPS):
            land, events = step(land, thing)
            self.assertEqual(village.step(thing), events)
            self.assertEqual((village.land(), len(village), village.counts()), (land, k + 1, (k + 1, k + 1)))
        self.assertEqual(village.steps(), STEPS)
        self.assertEqual(village.step(thing=("tick", 0)), (("tick", 0, 2),))

    def test_refused(self):
        village = village_behind(*STEPS[:2])
        before = (village.land(), village.log())
        for k, (thing, word) in enumerate(REFUSED):
            self.assertEqual(caught(self, NoStep, village.step, thing).word, word)
            self.assertEqual((village.land(), village.log(), village.counts()), (*before, (k + 2, k + 2)))
        for thing in ANY:
            self.assertEqual(caught(self, NoStep, village.step, thing).word, "shape")
        for family in (RunError, FolkError, ValueError):
            with self.assertRaises(family):
                village.step(None)
        self.assertEqual((village.land(), village.log()), before)


class Ran(unittest.TestCase):
    def test_all_and_fewer(self):
        for many in range(len(STEPS) + 1):
            land, log = run(first_land(CODE, *ROOTS), STEPS[:many])
            one, other = Village(CODE, roots=ROOTS), Village(CODE, roots=ROOTS)
            self.assertEqual((one.run(STEPS[:many]), other.run(STEPS, most=many)), (many, many))
            for village in (one, other):
                self.assertEqual((village.land(), village.log(), village.counts()), (land, log, (1, 1)))

    def test_more_than_there_are(self):
        village = Village(CODE, roots=ROOTS)
        self.assertEqual(village.run(STEPS, most=10 ** 30), len(STEPS))
        self.assertEqual(village.run((), most=7), 0)
        self.assertEqual(village.run(most=1, steps=(("tick", 0), None)), 1)
        self.assertEqual((len(village), village.counts()), (len(STEPS) + 1, (3, 3)))

    def test_the_limit(self):
        village = Village(CODE, roots=ROOTS)
        self.assertEqual(village.run((("tick", 0),) * 250), 200)
        self.assertEqual(village.run((("tick", 0),) * 250, most=240), 240)
        self.assertEqual((len(village), village.land()[2][0][1]), (440, 440))

    def test_those_ahead_of_a_refused_one_stand(self):
        for thing, word in REFUSED:
            for many in range(3):
                village = Village(CODE, roots=ROOTS)
                steps = (*STEPS[:many], thing, ("tick", 0), None)
                told = "act" if thing == ("act", 1, 0) else word
                self.assertEqual(caught(self, NoStep, village.run, steps).word, told)
                self.assertEqual((village.steps(), village.land(), village.counts()), (STEPS[:many], behind(first_land(CODE, *ROOTS), *STEPS[:many]), (1, 1)))
                self.assertEqual(village.run(steps, most=0), 0)

    def test_beyond_most_nothing_is_refused(self):
        village = Village(CODE, roots=ROOTS)
        self.assertEqual(village.run((*STEPS[:2], None), most=2), 2)
        self.assertEqual(caught(self, NoStep, village.run, (("tick", 0), None), most=2).word, "shape")
        self.assertEqual((len(village), village.counts()), (3, (2, 2)))


class Back(unittest.TestCase):
    def test_one_and_more(self):
        for many in range(1, len(STEPS) + 1):
            village = village_behind(*STEPS)
            self.assertEqual(village.back(times=many), STEPS[::-1][:many])
            land, log = run(first_land(CODE, *ROOTS), STEPS[:len(STEPS) - many])
            self.assertEqual((village.land(), village.log(), len(village), village.counts()), (land, log, len(log), (2, 2)))
        village = village_behind(*STEPS)
        for k in range(len(STEPS)):
            self.assertEqual(village.back(), (STEPS[len(STEPS) - 1 - k],))
        self.assertEqual((village.land(), len(village)), (first_land(CODE, *ROOTS), 0))

    def test_on_from_there(self):
        village = village_behind(*STEPS)
        village.back(times=4)
        self.assertEqual(village.step(("fall", 0)), step(behind(first_land(CODE, *ROOTS), *STEPS[:6]), ("fall", 0))[1])
        self.assertEqual((village.steps(), village.then(7)), ((*STEPS[:6], ("fall", 0)), village.land()))
        caught(self, NoBack, village.then, 8)

    def test_refused(self):
        village = village_behind(*STEPS)
        before = (village.land(), village.log())
        wrong = (0, True, False, None, -1, len(STEPS) + 1, 10 ** 30, "1", "", (), (1,), [1], village)
        for k, times in enumerate(wrong):
            error = caught(self, NoBack, village.back, times=times)
            self.assertIs(error.times, times)
            self.assertEqual((village.land(), village.log(), village.counts()), (*before, (k + 2, k + 2)))
        for family in (RunError, FolkError, ValueError):
            with self.assertRaises(family):
                village.back(times=None)
        caught(self, NoBack, Village(CODE, roots=ROOTS).back)
        self.assertEqual(caught(self, NoBack, Village(CODE, roots=ROOTS).back).times, 1)
        with self.assertRaises(TypeError):
            village.back(1)

    def test_then(self):
        village = village_behind(*STEPS)
        for k in range(len(STEPS) + 1):
            self.assertEqual(village.then(k), behind(first_land(CODE, *ROOTS), *STEPS[:k]))
        self.assertEqual(village.then(k=0), first_land(CODE, *ROOTS))
        for k in (True, False, None, -1, len(STEPS) + 1, 10 ** 30, "0", (), [], village):
            self.assertIs(caught(self, NoBack, village.then, k).times, k)
        self.assertEqual((village.counts(), len(village)), ((1, 1), len(STEPS)))


class Told(unittest.TestCase):
    def setUp(self):
        self.village = village_behind(*STEPS)
        self.first = first_land(CODE, *ROOTS)
        self.land, self.log = run(self.first, STEPS)

    def test_what_it_is(self):
        village = self.village
        self.assertEqual((village.land(), village.steps(), village.log()), (self.land, STEPS, self.log))
        self.assertEqual(village.trace(), trace_of(self.log, houses=2))
        self.assertEqual((village.fates(), village.losses()), (fates_of(self.log), losses_of(self.log)))
        self.assertEqual(lets_plain(self.first, STEPS, village.paper()), 9)
        self.assertEqual(village.fates(), ((A, B, ("hit", (1,)), ("took", 5)), (A, B, ("hit", (2,)), ("lost", "fallen", 8))))
        self.assertEqual(village.losses(), ((8, B, A, ("hit", (2,)), "fallen"),))

    def test_stories(self):
        trace = trace_of(self.log, houses=2)
        for address in (A, B, at(1, 1)):
            self.assertEqual(self.village.story(address), story_of(trace, address, library=CODE, roots=ROOTS))
        self.assertEqual(self.village.story(address=B)[4], ("fallen", None))
        for thing in (*ANY, at(1), at(2, 1), at(0, 2), self.village):
            self.assertIs(caught(self, NoFolk, self.village.story, thing).address, thing)

    def test_what_only_asks_changes_nothing_and_counts_nothing(self):
        village = self.village
        before = (village.land(), village.log(), village.counts())
        for _ in range(2):
            village.steps(), village.trace(), village.paper(), village.fates(), village.losses(), village.then(3), village.story(A), len(village), str(village)
            self.assertFalse(village == 1)
            with self.assertRaises(NoFolk):
                village.story(None)
            with self.assertRaises(NoBack):
                village.then(None)
        self.assertEqual((village.land(), village.log(), village.counts()), before)

    def test_counts(self):
        village = Village(CODE, roots=ROOTS)
        for k in range(1, 4):
            village.step(("tick", 0))
            village.run((("tick", 0), ("tick", 1)))
            caught(self, NoStep, village.step, None)
            caught(self, NoStep, village.run, (("tick", 0), None))
            village.back()
            caught(self, NoBack, village.back, times=0)
            self.assertEqual(village.counts(), (6 * k, 6 * k))

    def test_more_steps_than_the_limit(self):
        steps = (("tick", 0), ("act", 0, 0), *(("tick", 1),) * 230)
        village = Village(CODE, roots=ROOTS)
        for k in (0, 100, 200):
            village.run(steps[k:k + 100])
        self.assertEqual((len(village), village.steps()), (232, steps))
        self.assertEqual(village.then(232), village.land())
        self.assertEqual(village.land(), behind(first_land(CODE, *ROOTS), *steps))
        self.assertEqual(lets_plain(village.then(0), steps, village.paper()), 232)
        self.assertEqual((len(village.trace()[1]), len(village.log()), len(village.back(times=232))), (230, 232, 232))

    def test_kinds_and_new_ones(self):
        village = self.village
        for told in (village.land(), village.steps(), village.log(), village.trace(), village.paper(), village.fates(), village.losses(), village.story(A), village.counts(), village.then(2)):
            self.assertLessEqual(kinds_of(told), {tuple, str, int, bool, type(None)})
        self.assertIs(type(str(village)), str)
        self.assertIs(type(village.counts()), tuple)
        self.assertEqual(village.back(times=2), STEPS[::-1][:2])

    def test_a_copy_of_what_is_handed_in(self):
        library = [*CODE]
        village = Village(tuple(library), roots=ROOTS)
        steps = [("tick", 0)]
        village.run(tuple(steps))
        steps.append(("tick", 1))
        library.clear()
        self.assertEqual((village.steps(), village.land()[0]), ((("tick", 0),), CODE))


class Compared(unittest.TestCase):
    def test_len_and_str(self):
        village = Village(CODE, roots=ROOTS)
        for k, thing in enumerate(STEPS):
            self.assertEqual((len(village), str(village)), (k, shown_steps(STEPS[:k])))
            village.step(thing)
        self.assertEqual(str(village), "tick 0\nact 0 0\ncome 1\nagain 0\ncome 0\nact 1 0\npart 0 1\nmeet 1 0\nfall 1\ntick 1")

    def test_equal_whatever_steps_were_done(self):
        one, other = Village(CODE, roots=ROOTS), Village(CODE, roots=ROOTS)
        self.assertTrue(one == other)
        self.assertFalse(one != other)
        one.run((("tick", 0), ("tick", 1)))
        self.assertFalse(one == other)
        self.assertTrue(one != other)
        other.run((("tick", 1), ("tick", 0)))
        self.assertTrue(one == other)
        self.assertNotEqual(one.steps(), other.steps())
        one.back(times=2)
        self.assertFalse(one == other)
        self.assertTrue(one == Village(CODE, roots=ROOTS))
        self.assertEqual(one.counts(), (2, 2))

    def test_other_libraries_and_roots(self):
        one = Village(CODE, roots=ROOTS)
        self.assertFalse(one == Village((*CODE, *CODE), roots=ROOTS))
        self.assertFalse(one == Village(doers(), roots=ROOTS))
        self.assertFalse(one == Village(CODE, roots=(IT, DO)))
        self.assertFalse(one == Village(CODE, roots=(DO,)))

    def test_of_other_roots_and_the_same_land(self):
        # By a load the roots of a land turn: these lands are the same ones, but one village is of another root.
        text = "be do\nlate 1\ngo do\nbe it\nlate 1\ngo it"
        library = library_of(text, text, text)
        first, other = Village(library, roots=(plan_of(DO, None),)), Village(library, roots=(plan_of(None, DO),))
        for village in (first, other):
            village.run((("load", 0, 1), ("load", 0, 2), ("fall", 0)))
        self.assertEqual(first.land(), other.land())
        self.assertFalse(first == other)

    def test_other_things(self):
        village = Village(CODE, roots=ROOTS)
        for thing in (*ANY, village.land(), LIBRARY, CODE, 0, "", village.steps(), (village,)):
            self.assertIs(village == thing, False)
            self.assertIs(village != thing, True)
        self.assertIs(village == village, True)


class MadeUp(unittest.TestCase):
    def test_papers_and_lands_of_made_up_villages(self):
        maker = Lively(80)
        for seed in range(12):
            maker.houses = 1 + seed % 3
            library = maker.library(2)
            village = Village(library, roots=maker.roots(library))
            first = village.land()
            steps, lands, log = maker.steps(first, 60)
            self.assertEqual(village.run(steps), len(steps))
            self.assertEqual((village.land(), village.log()), (lands[-1], log))
            self.assertEqual(lets_plain(first, steps, village.paper()), sum([len(row) for row in village.paper()]))
            for k, land in enumerate(lands):
                self.assertEqual(village.then(k), land)
            ready = ready_steps(village.land())
            if ready:
                village.step(ready[-1])
                self.assertEqual(village.back(), ready[-1:])
            if steps:
                self.assertEqual(village.back(times=len(steps)), steps[::-1])
            self.assertEqual(village.land(), first)


if __name__ == "__main__":
    unittest.main()
