"""Points 78 and 79: stories, from a trace alone."""

import unittest

from founding import ANY, LIBRARY, at, caught
from housing import VOID, library_of
from landing import DO, IT, doers, plan_of
from letterfolk.codereader import read_code
from letterfolk.errors import FolkError, NoFolk, RunError
from letterfolk.lands import land_of
from letterfolk.stories import story_of
from letterfolk.traces import trace_of
from living import Lively
from making import kinds_of
from tracing import trace_behind

A, B = at(0), at(0, 1)


class Story(unittest.TestCase):
    library = doers()
    roots = (DO, IT)

    def trace(self, *steps):
        return trace_behind(self.library, self.roots, *steps)

    def story(self, address, *steps):
        return story_of(self.trace(*steps), address, library=self.library, roots=self.roots)


class Roots(Story):
    def test_at_the_beginning(self):
        for address, state in ((A, DO), (B, IT)):
            self.assertEqual(self.story(address), (None, (state,), (), (), None))

    def test_what_it_did(self):
        self.library = doers("tell 7", "send @1.0 hit 5", "tell 'red")
        steps = (("tick", 0), ("act", 0, 0), ("come", 0), ("act", 1, 0))
        self.assertEqual(self.story(A, *steps), (None, (DO, IT), (), (7, "red"), None))
        self.assertEqual(self.story(B, *steps), (None, (IT, IT), ((A, 0, ("hit", (5,)), ("hit", (5,))),), (5,), None))
        # So far alone.
        self.assertEqual(self.story(B, *steps[:3]), (None, (IT,), (), (), None))

    def test_the_same_state_again(self):
        self.library = doers(last="go do")
        turn = (("tick", 0), ("act", 0, 0))
        self.assertEqual(self.story(A, *turn, *turn, *turn), (None, (DO,) * 4, (), (), None))

    def test_it_ends(self):
        for last, reason in (("end 'done", "done"), ("end 'worse", "worse"), ("end 7", "odd")):
            self.library = doers("tell 1", last=last)
            self.assertEqual(self.story(A, ("tick", 0), ("act", 0, 0)), (None, (DO,), (), (1,), (reason, None)))

    def test_it_ends_by_another_one(self):
        self.library = doers("link @1.0", last="end 'worse")
        self.assertEqual(self.story(B, ("tick", 0), ("act", 0, 0), ("come", 0), ("come", 0)), (None, (IT,), (), (), ("worse", A)))

    def test_it_fell(self):
        self.assertEqual(self.story(A, ("fall", 0)), (None, (DO,), (), (), ("fallen", None)))
        self.assertEqual(self.story(B, ("fall", 0)), (None, (IT,), (), (), None))
        # Who had ended ahead of the fall ended by that.
        self.library = doers(last="end 'done")
        self.assertEqual(self.story(A, ("tick", 0), ("act", 0, 0), ("fall", 0)), (None, (DO,), (), (), ("done", None)))

    def test_made_anew_behind_a_fall_it_is_another_address(self):
        self.library = doers("tell 7", last="go do")
        steps = (("tick", 0), ("act", 0, 0), ("fall", 0), ("tick", 0), ("act", 0, 1), ("tick", 0), ("act", 0, 1))
        self.assertEqual(self.story(A, *steps), (None, (DO, DO), (), (7,), ("fallen", None)))
        self.assertEqual(self.story(at(1), *steps), (None, (DO,) * 3, (), (7, 7), None))


class Made(Story):
    def test_by_folk(self):
        self.library = doers("make k do free", "make j it linked")
        steps = (("tick", 0), ("act", 0, 0), ("tick", 0), ("act", 0, 1))
        self.assertEqual(self.story(at(1), *steps), (A, (DO, IT), (), (), None))
        self.assertEqual(self.story(at(2), *steps), (A, (IT,), (), (), None))
        self.assertEqual(self.story(at(3), *steps), (at(1), (DO,), (), (), None))

    def test_keepers_and_their_children(self):
        self.library = library_of("be it\nlate 1\ngo it\nbe once\nlate 1\ntell 3\nend 'odd")
        once = ("once", (), 0)
        plan = plan_of(once, plan_of(IT), way="one", most=1)
        self.roots = (plan,)
        keeper = ("keeper", "one", 1, 5, (once, plan_of(IT)), (at(1), at(2)), ())
        inner = ("keeper", "one", 3, 5, (IT,), (at(3),), ())
        self.assertEqual(self.story(A), (None, (keeper,), (), (), None))
        self.assertEqual(self.story(at(1)), (A, (once,), (), (), None))
        self.assertEqual(self.story(at(2)), (A, (inner,), (), (), None))
        self.assertEqual(self.story(at(3)), (at(2), (IT,), (), (), None))
        steps = (("tick", 0), ("act", 0, 1))
        # The keeper began it anew; that is told of the child alone.
        self.assertEqual(self.story(A, *steps), (None, (keeper,), (), (), None))
        self.assertEqual(self.story(at(1), *steps), (A, (once,), (), (3,), ("odd", None)))
        self.assertEqual(self.story(at(4), *steps), (A, (once,), (), (), None))
        steps = (*steps, ("tick", 0), ("act", 0, 4))
        self.assertEqual(self.story(A, *steps), (None, (keeper,), (), (), ("beyond", at(4))))
        self.assertEqual(self.story(at(2), *steps), (A, (inner,), (), (), ("shut", A)))
        self.assertEqual(self.story(at(3), *steps), (at(2), (IT,), (), (), ("shut", at(2))))

    def test_keepers_whose_rows_are_led(self):
        self.library = LIBRARY
        count, other = ("count", (3,), 0), ("count", (3, 7), 1)
        self.roots = (plan_of(count, None),)
        keeper = ("keeper", "one", 3, 5, (count, None), (at(1), None), ())
        tally = ("tally", (-4,), 2)
        steps = (("load", 0, 1), ("load", 0, 2))
        self.assertEqual(self.story(A, *steps), (None, (keeper, (other, None), (tally, None)), (), (), None))
        self.assertEqual(self.story(at(1), *steps), (A, (count,), (), (), ("old", None)))
        self.assertEqual(self.story(at(2), *steps), (A, (tally,), (), (), None))

    def test_who_moves(self):
        # It moves as it says go; a letter that is elder than it is then is taken as it is led.
        first = (read_code("be count n\narm add k : 1\ngo count + n k\nbe send\nlate 1\nsend @0.0 add 4\ngo send"), VOID)
        table = ((("count", ("count", (("of", "n"), ("is", 7)))),), ((("add", 1), ("add", (("plus", ("of", "a"), ("is", 1)),))),))
        second = (read_code("be count n m\narm add k : 1\ngo count + n k m"), table)
        self.library, self.roots = (first, second), (("count", (3,), 0), ("send", (), 0))
        turn = (("tick", 1), ("act", 1, 0), ("come", 0), ("act", 0, 0))
        add = ("add", (4,))
        self.assertEqual(self.story(A, *turn, ("load", 0, 1), *turn, *turn), (
            None, (("count", (3,), 0), ("count", (7,), 0), ("count", (11, 7), 1), ("count", (16, 7), 1)),
            ((B, 0, add, add), (B, 0, add, add), (B, 0, add, ("add", (5,)))), (), None))


class NobodyWasMade(Story):
    def test_any_thing(self):
        trace = self.trace(("tick", 0), ("act", 0, 0), ("fall", 0))
        for thing in (*ANY, at(2), at(1, 1), at(0, 2), ("at", 10 ** 30, 0), ("at", 0, 10 ** 30), ("at", True, 0), ("at", 0, True), ("at", 0, -1), ["at", 0, 0], ("house", 0), 0, True, "at"):
            error = caught(self, NoFolk, story_of, trace, thing, library=self.library, roots=self.roots)
            self.assertIs(error.address, thing)
        self.assertEqual(story_of(trace, at(1), library=self.library, roots=self.roots)[0], None)
        for family in (RunError, FolkError, ValueError):
            with self.assertRaises(family):
                story_of(trace, None, library=self.library, roots=self.roots)

    def test_who_was_never_made_though_told_of(self):
        self.library = doers("send @0.5 hit 1", "link @1.7", "name boss @")
        steps = (("tick", 0), ("act", 0, 0), ("come", 0), ("come", 0), ("come", 0))
        for address in (at(5), at(7, 1)):
            self.assertIs(caught(self, NoFolk, self.story, address, *steps).address, address)

    def test_roots_that_are_none(self):
        self.roots = (None, IT)
        self.assertEqual(caught(self, NoFolk, self.story, A).address, A)
        self.assertEqual(self.story(B)[1], (IT,))

    def test_by_the_view_of_its_house_alone(self):
        self.library = doers("tell 7", "send @1.0 hit 5")
        trace = self.trace(("tick", 0), ("act", 0, 0), ("come", 0), ("act", 1, 0))
        for h, address in ((0, A), (1, B)):
            told = story_of(trace, address, library=self.library, roots=self.roots)
            alone = tuple([view if k == h else () for k, view in enumerate(trace)])
            self.assertEqual(story_of(alone, address, library=self.library, roots=self.roots), told)

    def test_kinds_names_and_what_is_handed_in(self):
        self.library = doers("tell 7", "send @ hit 5")
        trace = self.trace(("tick", 0), ("act", 0, 0), ("act", 0, 0))
        before = repr(trace)
        told = story_of(roots=self.roots, address=A, library=self.library, trace=trace)
        self.assertEqual(told, (None, (DO, IT, IT), ((A, 0, ("hit", (5,)), ("hit", (5,))),), (7, 5), None))
        self.assertEqual((kinds_of(told), repr(trace)), ({tuple, str, int, type(None)}, before))
        with self.assertRaises(TypeError):
            story_of(trace, A, self.library, self.roots)


class MadeUp(unittest.TestCase):
    def test_who_lives_has_a_story_without_end(self):
        """Point 79, and that whoever was made and lives no more has one with an end."""
        maker = Lively(78)
        many = {"lives": 0, "ended": 0, "fallen": 0, "moved": 0}
        for seed in range(60):
            maker.houses = 1 + seed % 3
            library = maker.library(3)
            roots = maker.roots(library)
            land, _ = land_of(library, roots)
            _, lands, log = maker.steps(land, 70)
            trace = trace_of(log, houses=maker.houses)
            for house in lands[-1][2]:
                lives = dict(house[4])
                for n in range(house[2]):
                    by, states, taken, told, end = story_of(trace, at(n, house[0]), library=library, roots=roots)
                    self.assertEqual(end is None, n in lives)
                    if end is None:
                        what = lives[n][0]
                        if len(what) == 3:
                            self.assertEqual(states[-1], what)
                        else:
                            self.assertEqual(states[-1] if len(states) > 1 else states[0][4], what[4])
                    many["lives" if end is None else end[0] if end == ("fallen", None) else "ended"] += 1
                    many["moved"] += len(states) > 3
                    made = [event for _, events in log for event in events if event[:2] == ("made", at(n, house[0]))]
                    if made:
                        self.assertEqual([made[0][2], made[0][3]], [by, states[0]])
                    else:
                        self.assertTrue(by is None or by[1] == house[0])
        self.assertGreater(min(many.values()), 30)


if __name__ == "__main__":
    unittest.main()
