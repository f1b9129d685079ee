"""Points 70 and 71: plain papers, told and looked at."""

import unittest

from founding import ANY, at, caught
from landing import DO, IT, behind, doers, first_land
from letterfolk.errors import FolkError, NoPaper, NoStep, PaperError, RunError
from letterfolk.landruns import run
from letterfolk.lands import land_of
from letterfolk.plainchecker import lets_plain
from letterfolk.plainlands import plain_of
from letterfolk.plainpapers import plain_paper
from letterfolk.plainsteps import plain_step
from living import Lively
from making import kinds_of

A, B = at(0), at(0, 1)
STEPS = (
    ("tick", 0), ("act", 0, 0), ("come", 1), ("again", 0), ("come", 0), ("act", 1, 0), ("act", 1, 0), ("part", 1, 0), ("meet", 0, 1), ("again", 0), ("load", 0, 1), ("fall", 1))
PAPER = (
    (("tick", 0),), (("act", 0, 0),), (), (), (("come", A, B), ("come", A, B)), (("act", 1, 0),), (("act", 1, 0),), (("part", 1, 0),), (("meet", 0, 1),), (),
    (("load", 0, 1),), (("fall", 1),))
WITHOUT = ("packed", "came", "given")


def start():
    library = doers("send @1.0 hit 1", "send @1.0 hit 2")
    return first_land((*library, *library), DO, IT)


class PlainPaper(unittest.TestCase):
    def test_each_step(self):
        self.assertEqual(plain_paper(start(), STEPS), PAPER)

    def test_none(self):
        self.assertEqual(plain_paper(start(), ()), ())
        self.assertEqual(lets_plain(start(), (), ()), 0)

    def test_an_act_that_looks_in_vain(self):
        land = first_land(doers("send @1.0 bye", "send @1.0 hit 1"), DO, IT)
        steps = (("tick", 0), ("act", 0, 0), ("come", 0), ("act", 1, 0), ("come", 0), ("act", 1, 0))
        paper = plain_paper(land, steps)
        self.assertEqual(paper, ((("tick", 0),), (("act", 0, 0),), (("come", A, B),), (), (("come", A, B),), (("act", 1, 0),)))
        self.assertEqual(lets_plain(land, steps, paper), 5)

    def test_more_than_the_limit(self):
        steps = (("tick", 0),) * 250
        self.assertEqual(plain_paper(start(), steps), ((("tick", 0),),) * 250)
        self.assertEqual(lets_plain(start(), steps, ((("tick", 0),),) * 250), 250)
        self.assertEqual(caught(self, NoStep, plain_paper, start(), (*steps, ("tick", 2))).word, "house")
        self.assertEqual(caught(self, NoStep, lets_plain, start(), (*steps, ("tick", 2)), None).word, "house")

    def test_refused_as_a_run_is(self):
        for thing, word in (
                (None, "shape"), (("tick", True), "shape"), (("come", A, B), "shape"), (("tick", 2), "house"), (("act", 0, 0), "act"), (("come", 9), "packet"), (("meet", 0, 1), "linked"),
                (("load", 0, 2), "edition")):
            steps = (("tick", 1), thing, None)
            self.assertEqual(caught(self, NoStep, plain_paper, start(), steps).word, word)
            for paper in (None, (), ((), (), ()), ((("tick", 1),), (), ()), ((("tick", 9),), (), ())):
                self.assertEqual(caught(self, NoStep, lets_plain, start(), steps, paper).word, word)
        for family in (RunError, FolkError, ValueError):
            with self.assertRaises(family):
                plain_paper(start(), (None,))

    def test_from_another_land_on(self):
        for k in range(len(STEPS)):
            land = behind(start(), *STEPS[:k])
            self.assertEqual(plain_paper(land, STEPS[k:]), PAPER[k:])
            self.assertEqual(lets_plain(land, STEPS[k:], PAPER[k:]), sum([len(row) for row in PAPER[k:]]))

    def test_kinds_and_names(self):
        told = plain_paper(steps=STEPS, land=start())
        self.assertEqual((told, kinds_of(told)), (PAPER, {tuple, str, int}))


class LetsPlain(unittest.TestCase):
    def refused(self, thing, word, at_place, steps=STEPS):
        land = start()
        error = caught(self, NoPaper, lets_plain, land, steps, thing)
        self.assertEqual((error.word, error.at), (word, at_place))

    def test_how_many(self):
        self.assertEqual(lets_plain(start(), STEPS, PAPER), 10)
        self.assertIs(type(lets_plain(start(), STEPS, PAPER)), int)
        self.assertEqual(lets_plain(thing=PAPER, steps=STEPS, land=start()), 10)

    def test_shape(self):
        for thing in (*ANY, (), PAPER[:-1], (*PAPER, ()), list(PAPER), (*PAPER[:-1], None), (*PAPER[:-1], ["fall", 1]), ([], *PAPER[1:]), ("", *PAPER[1:]), (None,) * 12, True, 12):
            self.refused(thing, "shape", -1)
        # Ahead of all steps that can't be done.
        self.refused(((("tick", 9),), *PAPER[1:-1], None), "shape", -1)
        for family in (PaperError, FolkError, ValueError):
            with self.assertRaises(family):
                lets_plain(start(), STEPS, None)

    def test_a_step_that_cannot_be_done(self):
        for thing in (*ANY, None, ("tick", True), ("tick", 2), ("act", 0, 0), ("come", 0), ("again", 0), ("come", A, B), ["tick", 0], ("meet", 0, 1), ("load", 0, 2), ("come", B, None)):
            self.refused(((thing,), *PAPER[1:]), "step", (0, 0))
            self.refused(((("tick", 0), thing), *PAPER[1:]), "step", (0, 1)) if thing != ("act", 0, 0) else None
        self.refused((*PAPER[:4], (*PAPER[4], ("come", A, B)), *PAPER[5:]), "step", (4, 2))
        self.refused((*PAPER[:4], (("come", A, B), ("come", B, A)), *PAPER[5:]), "step", (4, 1))
        self.refused((*PAPER[:11], (("fall", 2),)), "step", (11, 0))
        self.refused((*PAPER[:6], (*PAPER[6], *PAPER[6]), (("part", 0, 0),), *PAPER[8:]), "step", (6, 1))

    def test_another_land(self):
        self.refused(((), *PAPER[1:]), "land", 0)
        self.refused((*PAPER[:1], (), *PAPER[2:]), "land", 1)
        self.refused(((*PAPER[0], *PAPER[1]), (), *PAPER[2:]), "land", 0)
        self.refused((*PAPER[:2], (("come", A, B),), *PAPER[3:]), "land", 2)
        self.refused((*PAPER[:4], (("come", A, B),), *PAPER[5:]), "land", 4)
        self.refused((*PAPER[:11], ()), "land", 11)
        self.refused((*PAPER[:11], (("fall", 0),)), "land", 11)
        self.refused(((("tick", 1),), *PAPER[1:]), "land", 0)
        # The land behind step 0 is another one, ahead of the step of step 1 that can't be done.
        self.refused(((), (None,), *PAPER[2:]), "land", 0)

    def test_other_papers_are_let_by_too(self):
        parted = (("part", 1, 0), ("part", 0, 1))
        for one, other in (parted, parted[::-1]):
            steps = (one,)
            self.assertEqual(lets_plain(start(), steps, ((other,),)), 1)
        # What comes to the same by more steps: one of nobody falls twice.
        land = first_land(doers(), None, None)
        self.assertEqual(lets_plain(land, (("fall", 0),), ((("fall", 0), ("fall", 0)),)), 2)
        self.assertEqual(lets_plain(land, (("fall", 0),), ((("part", 0, 1),),)), 1)

    def test_any_order_that_comes_to_the_same(self):
        land = behind(first_land(doers("send @1.0 hit 1", "send @1.1 hit 2"), DO, IT), ("tick", 0), ("act", 0, 0))
        steps = (("come", 0), ("come", 0))
        one, other = ("come", A, B), ("come", A, at(1, 1))
        self.assertEqual(lets_plain(land, steps, ((one,), (other,))), 2)
        error = caught(self, NoPaper, lets_plain, land, steps, ((other,), (one,)))
        self.assertEqual((error.word, error.at), ("land", 0))


class MadeUp(unittest.TestCase):
    def test_told_papers_are_let_by_and_tell_the_same(self):
        """Points 70 and 71 on made-up runs, of plain steps and of their events."""
        maker = Lively(70)
        counts = {}
        for seed in range(90):
            maker.houses = 1 + seed % 3
            library = maker.library(3)
            land = land_of(library, maker.roots(library))[0]
            steps, lands, log = maker.steps(land, 70)
            self.assertEqual(run(land, steps), (lands[-1], log))
            paper = plain_paper(land, steps)
            self.assertEqual(lets_plain(land, steps, paper), sum([len(row) for row in paper]))
            plain = plain_of(land)
            for k, row in enumerate(paper):
                told = []
                for thing in row:
                    plain, events = plain_step(plain, thing)
                    told.extend(events)
                self.assertEqual(plain, plain_of(lands[k + 1]))
                self.assertEqual(told, [event for event in log[k][1] if event[0] not in WITHOUT])
                for event in log[k][1]:
                    word = event[0] + (event[-1] if event[0] in ("lost", "came") else "")
                    counts[word] = counts.get(word, 0) + 1
        sorts = {
            "took", "late", "sent", "told", "asked", "made", "named", "went", "ended", "unnamed", "anew", "led", "packed", "tick", "loaded", "given", "parted", "met", "fell",
            "lostgone", "lostkeeper", "lostended", "lostparted", "lostfallen", "lostunseen", "cametaken", "cameagain", "camekept", "cameelder"}
        self.assertEqual(sorts - set(counts), set())


if __name__ == "__main__":
    unittest.main()
