"""Point 77: steps of whose log a thing is the trace."""

import unittest

from founding import ANY, LIBRARY, at, caught
from landing import DO, IT, doers, letter, plan_of
from letterfolk.errors import FolkError, NoTrace, PaperError
from letterfolk.explaining import steps_for
from letterfolk.landruns import run
from letterfolk.lands import land_of
from letterfolk.traces import trace_of
from living import Lively
from making import kinds_of
from tracing import told_alone, trace_behind, with_events

A, B, C = at(0), at(0, 1), at(0, 2)


class StepsFor(unittest.TestCase):
    library = doers("send @1.0 hit 1", "send @2.0 hit 2", "send @1.0 hit 3")
    roots = (DO, IT, IT)

    def explained(self, trace):
        """The steps told, whose trace is this."""
        told = steps_for(trace, library=self.library, roots=self.roots)
        self.assertEqual(trace_behind(self.library, self.roots, *told), trace)
        return told

    def test_nothing(self):
        self.assertEqual(self.explained(((), (), ())), ())

    def test_each_step(self):
        for steps, many in (
                ((("tick", 1),), 1), ((("tick", 0), ("act", 0, 0)), 2), ((("part", 1, 0),), 1), ((("part", 0, 2), ("meet", 2, 0), ("part", 0, 2)), 3), ((("fall", 1),), 1),
                ((("fall", 1), ("fall", 1), ("meet", 0, 1), ("fall", 0)), 4)):
            told = self.explained(trace_behind(self.library, self.roots, *steps))
            self.assertEqual(len(told), many)
        self.assertIn(self.explained(trace_behind(self.library, self.roots, ("part", 1, 0))), ((("part", 0, 1),), (("part", 1, 0),)))

    def test_loads(self):
        roots = (plan_of(("count", (3,), 0), None), None)
        steps = (("load", 0, 1), ("tick", 0), ("load", 0, 2), ("load", 0, 3), ("load", 1, 1), ("fall", 0))
        trace = trace_behind(LIBRARY, roots, *steps)
        told = steps_for(trace, library=LIBRARY, roots=roots)
        self.assertEqual(trace_behind(LIBRARY, roots, *told), trace)
        self.assertEqual(sorted(told), sorted(steps))

    def test_what_is_in_no_view_is_in_no_steps(self):
        # What came again, or as an elder one, or was kept, is told in no view; what was kept is given as it comes.
        steps = (("tick", 0), ("act", 0, 0), ("come", 2), ("again", 0), ("come", 0), ("again", 1), ("part", 0, 1), ("meet", 0, 1), ("again", 0), ("come", 0))
        trace = trace_behind(self.library, self.roots, *steps)
        told = self.explained(trace)
        self.assertEqual(len(told), 7)
        self.assertEqual([word for word, *_ in told].count("come"), 3)

    def test_other_orders_of_houses(self):
        """What houses did in any order between them has the same trace as the same views in another order."""
        steps = (("tick", 0), ("act", 0, 0), ("tick", 2), ("come", 1), ("tick", 1), ("act", 2, 0), ("come", 1), ("come", 0), ("act", 1, 0), ("tick", 2), ("act", 1, 0), ("tick", 0))
        other = (("tick", 2), ("tick", 1), ("tick", 0), ("act", 0, 0), ("come", 0), ("come", 1), ("act", 1, 0), ("act", 1, 0), ("tick", 0), ("come", 0), ("act", 2, 0), ("tick", 2))
        trace = trace_behind(self.library, self.roots, *steps)
        self.assertEqual(trace_behind(self.library, self.roots, *other), trace)
        self.assertEqual(len(self.explained(trace)), 12)

    def test_house_by_house_is_not_always_an_order(self):
        # Each house takes what the other one sent ahead of sending again: no house can be put whole ahead of another.
        library = doers("send @0.0 hit 1", "send @1.0 hit 1", last="go do")
        steps = (("tick", 1), ("act", 1, 0), ("come", 0), ("tick", 0), ("act", 0, 0), ("come", 0), ("tick", 1), ("act", 1, 0), ("come", 0))
        trace = trace_behind(library, (DO, DO), *steps)
        told = steps_for(trace, library=library, roots=(DO, DO))
        self.assertEqual(trace_behind(library, (DO, DO), *told), trace)

    def test_a_fall_explains_all_its_parts(self):
        trace = told_alone(self.library, self.roots, (("part", 1),), (("tick",), ("fall",)), (("tick",), ("part", 1)))
        told = self.explained(trace)
        self.assertEqual(sorted(told), [("fall", 1), ("tick", 1), ("tick", 2)])
        self.assertEqual(told[-1], ("fall", 1))

    def test_two_packets_of_the_same_letter(self):
        # The same letter by the same posts over two links: each packet is told by its very link.
        self.library = doers("send @1.0 hit 1", last="go do")
        self.roots = (DO, IT)
        steps = (("tick", 0), ("act", 0, 0), ("part", 0, 1), ("meet", 0, 1), ("tick", 0), ("act", 0, 0), ("come", 1))
        trace = trace_behind(self.library, self.roots, *steps)
        self.assertEqual(trace[1][-1], (("given", (1, A, B, 0, letter(1))), ()))
        self.assertEqual(self.explained(trace)[-1], ("come", 1))

    def test_refused_as_the_trace_is(self):
        trace = trace_behind(self.library, self.roots, ("tick", 0), ("act", 0, 0), ("come", 0))
        for thing in ANY:
            error = caught(self, NoTrace, steps_for, thing, library=self.library, roots=self.roots)
            self.assertEqual((error.word, error.at), ("shape", -1))
        error = caught(self, NoTrace, steps_for, with_events(trace, 0, 1, ()), library=self.library, roots=self.roots)
        self.assertEqual((error.word, error.at), ("events", (0, 1)))
        error = caught(self, NoTrace, steps_for, ((), *trace[1:]), library=self.library, roots=self.roots)
        self.assertEqual((error.word, error.at), ("sent", (1, 0)))
        for family in (PaperError, FolkError, ValueError):
            with self.assertRaises(family):
                steps_for(None, library=self.library, roots=self.roots)

    def test_kinds_names_and_what_is_handed_in(self):
        trace = trace_behind(self.library, self.roots, ("tick", 0), ("act", 0, 0), ("come", 0), ("fall", 2))
        before = repr(trace)
        told = steps_for(roots=self.roots, trace=trace, library=self.library)
        self.assertEqual(told, self.explained(trace))
        self.assertEqual((kinds_of(told), repr(trace)), ({tuple, str, int}, before))
        with self.assertRaises(TypeError):
            steps_for(trace, self.library, self.roots)

    def test_made_up_runs(self):
        maker = Lively(77)
        others = 0
        for seed in range(60):
            maker.houses = 1 + seed % 3
            self.library = maker.library(3)
            self.roots = maker.roots(self.library)
            land, _ = land_of(self.library, self.roots)
            steps, lands, log = maker.steps(land, 70)
            told = self.explained(trace_of(log, houses=maker.houses))
            # The houses, and how they are linked, are those of the land behind.
            behind, _ = run(land, told, most=len(told))
            self.assertEqual(behind[:3], lands[-1][:3])
            self.assertEqual([pair[:4] for pair in behind[3]], [pair[:4] for pair in lands[-1][3]])
            others += told != steps
        self.assertGreater(others, 20)


if __name__ == "__main__":
    unittest.main()
