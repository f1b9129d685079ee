"""Points 75 and 76: whether any thing is the trace of a run."""

import unittest

from founding import ANY, LIBRARY, at, caught
from housing import REST, library_of
from landing import DO, IT, doers, letter, plan_of
from letterfolk.errors import FolkError, NoStep, NoTrace, PaperError
from letterfolk.explaining import steps_for
from letterfolk.lands import land_of
from letterfolk.tracechecker import lets_trace
from letterfolk.traces import trace_of
from living import Lively
from making import NO_NUMBERS, places, replaced
from tracing import told_alone, trace_behind, with_events, with_input, with_view

A, B, C = at(0), at(0, 1), at(0, 2)
HOUSE = [("house", h) for h in range(3)]
ROOTS = (DO, IT, IT)
# What number 0 of house 0 sends goes to both others; boss is its word.
CODE = doers("send @1.0 hit 1", "send @2.0 hit 2", "link @1.0", "name boss @")
STEPS = (
    ("tick", 0), ("act", 0, 0), ("come", 1), ("come", 0), ("act", 2, 0), ("again", 0), ("come", 0), ("come", 1), ("come", 0), ("part", 1, 2), ("tick", 1), ("act", 1, 0), ("meet", 2, 1),
    ("fall", 0), ("meet", 0, 1), ("tick", 0), ("act", 0, 1))


def packet(number, thing, sender=A, to=B, link=0):
    return (link, sender, to, number, thing)


class Checking(unittest.TestCase):
    library = CODE
    roots = ROOTS

    def lets(self, thing):
        before = repr((thing, self.library, self.roots))
        self.assertIs(lets_trace(thing, library=self.library, roots=self.roots), True)
        self.assertEqual(repr((thing, self.library, self.roots)), before)

    def refused(self, thing, word, place=-1):
        error = caught(self, NoTrace, lets_trace, thing, library=self.library, roots=self.roots)
        self.assertEqual((error.word, error.at), (word, place))
        error = caught(self, NoTrace, steps_for, thing, library=self.library, roots=self.roots)
        self.assertEqual((error.word, error.at), (word, place))

    def trace(self, *steps):
        return trace_behind(self.library, self.roots, *steps)

    def alone(self, *inputs):
        return told_alone(self.library, self.roots, *inputs)


class LetBy(Checking):
    def test_each_part_of_a_run(self):
        for many in range(len(STEPS) + 1):
            self.lets(self.trace(*STEPS[:many]))

    def test_nothing_was_done(self):
        self.lets(((), (), ()))
        self.assertIs(lets_trace(((),), library=LIBRARY, roots=(None,)), True)
        self.assertIs(lets_trace(thing=((), ()), roots=(REST, None), library=library_of("be rest\nlate 1\ngo rest")), True)

    def test_loads(self):
        for roots in ((plan_of(("count", (3,), 0), None),), (("count", (3,), 0),), (None,)):
            trace = trace_behind(LIBRARY, roots, ("load", 0, 1), ("tick", 0), ("load", 0, 2), ("load", 0, 3), ("fall", 0), ("fall", 0))
            self.assertIs(lets_trace(trace, library=LIBRARY, roots=roots), True)

    def test_what_is_lost_between_houses_is_in_no_view(self):
        self.library = doers("send @1.0 hit 1")
        trace = self.trace(("tick", 0), ("act", 0, 0), ("part", 0, 1))
        parted = ("parted", 0, 1, 0)
        self.assertEqual((trace[0][2], trace[1]), ((("part", 1), (parted,)), ((("part", 0), (parted,)),)))
        self.lets(trace)
        lost = ("lost", B, A, ("hit", (1,)), "parted")
        self.refused(with_events(trace, 0, 2, (parted, lost)), "events", (0, 2))
        self.refused(with_events(trace, 1, 0, (parted, lost)), "events", (1, 0))
        trace = self.trace(("tick", 0), ("act", 0, 0), ("fall", 1))
        self.assertEqual(trace[0][2], (("part", 1), (parted,)))
        self.lets(trace)
        self.refused(with_events(trace, 0, 2, (parted, lost)), "events", (0, 2))

    def test_what_is_lost_by_an_act_is_in_its_view(self):
        trace = self.trace(("part", 0, 1), ("tick", 0), ("act", 0, 0))
        self.assertIn(("lost", B, A, ("hit", (1,)), "parted"), trace[0][2][1])
        self.lets(trace)


class Shape(Checking):
    def setUp(self):
        self.right = self.trace(*STEPS)

    def test_any_thing(self):
        for thing in (*ANY, (), ((),), ((), ()), ((), (), (), ()), [(), (), ()], ((), (), []), ((), (), None), ((), (), ""), (*self.right, ()), self.right[:2], list(self.right), True):
            self.refused(thing, "shape")
        for family in (PaperError, FolkError, ValueError):
            with self.assertRaises(family):
                lets_trace(None, library=self.library, roots=self.roots)

    def test_rows(self):
        for row in (*ANY, (), (("tick",),), (("tick",), (), ()), [("tick",), ()], (("tick",), []), (("tick",), None), (("tick",), ""), (("tick",), {})):
            for h, view in enumerate(self.right):
                self.refused(with_view(self.right, h, (*view, row)), "shape")
                self.refused(with_view(self.right, h, (row, *view)), "shape")

    def test_inputs(self):
        wrong = (
            *ANY, (), ("act",), ("act", 0, 0), ("act", True), ("act", False), ("act", -1), ("act", "0"), ("act", None), ["act", 0], ("acts", 0), ("tick", 0), ["tick"], "tick", ("load",),
            ("load", True), ("load", -1), ("load", 0, 0), ("part",), ("part", -1), ("part", True), ("part", 0, 1), ("meet",), ("meet", False), ("meet", 0, 1), ("fall", 0), ["fall"],
            ("come", 0), ("again", 0), ("given",), ("given", None), ("given", ()), ("given", 0), (None,), (["tick"],), (("tick",),), (0,), (True,))
        for given in wrong:
            # Ahead of inputs that can't be done and events that are others.
            trace = with_events(self.right, 0, 0, ())
            self.refused(with_view(trace, 2, (*trace[2], (given, ()))), "shape")

    def given(self, told):
        """The trace with this packet as the very last input."""
        return with_view(self.right, 2, (*self.right[2], (("given", told), ())))

    def test_packets(self):
        right = packet(0, letter(1), to=C)
        self.refused(self.given(right), "input", (2, len(self.right[2])))
        for wrong in (right[:4], (*right, 0), list(right), (), (*right[:4], ()), (*right[:4], None)):
            self.refused(self.given(wrong), "shape")
        for place in (0, 3):
            for wrong in (*NO_NUMBERS, -1):
                self.refused(self.given(replaced(right, (place,), wrong)), "shape")
        for place in (1, 2):
            for wrong in (None, 0, (), ("at", 0), ("at", True, 0), ("at", 0, False), ("at", -1, 0), ["at", 0, 0], ("house", 0), ("house",), ("home", 0), ("at", 0, 0, 0)):
                self.refused(self.given(replaced(right, (place,), wrong)), "shape")

    def test_things_from_address_to_address(self):
        wrong = (
            None, (), [], "letter", ("letter",), ("letter", 0), ("letter", 0, ("hit", ()), 0), ["letter", 0, ("hit", ())], ("letter", 1, ("hit", ())), ("letter", True, ("hit", ())),
            ("letter", False, ("hit", ())), ("letter", -1, ("hit", ())), ("letter", "a", ("hit", ())), ("letter", 0, ("hit",)), ("letter", 0, ("hit", [])), ("letter", 0, ("hit", (True,))),
            ("letter", 0, ("Hit", ())), ("letter", None, None), ("letter", 0, ["hit", ()]), ("signal",), ("signal", None), ("signal", ""), ("signal", "gone", 0), ("signal", 1), ("down",),
            ("down", "A"), ("down", True), ("down", "gone", "gone"), ("link", 0), ("link", ()), ("unlink", None), ("watch", A), ("word", "boss", A, True), ("exit", "gone"), ("words",),
            (("link",),), (["link"],), (None,), (True, 0, ("hit", ())), ["link"], "link")
        for thing in wrong:
            self.refused(self.given(packet(0, thing, to=C)), "shape")
        for thing in (letter(1), letter(-1), ("letter", None, ("a", (A, "red"))), ("signal", "gone"), ("down", "x"), ("link",), ("unlink",), ("watch",)):
            self.refused(self.given(packet(0, thing, to=C)), "input", (2, len(self.right[2])))
            for sender, to in ((HOUSE[0], HOUSE[2]), (A, HOUSE[2]), (HOUSE[0], C)):
                self.refused(self.given(packet(0, thing, sender, to)), "shape")

    def test_things_from_house_to_house(self):
        right = ("word", "boss", A, True)
        self.refused(self.given(packet(0, right, HOUSE[0], HOUSE[2])), "input", (2, len(self.right[2])))
        for thing in (
                right[:3], (*right, 0), list(right), ("word", "", A, True), ("word", None, A, True), ("word", "boss", None, True), ("word", "boss", ("at", 0, True), True),
                ("word", "boss", HOUSE[0], True), ("word", "boss", A, 1), ("word", "boss", A, 0), ("word", "boss", A, None), ("words", "boss", A, True)):
            self.refused(self.given(packet(0, thing, HOUSE[0], HOUSE[2])), "shape")
        for sender, to in ((A, C), (A, HOUSE[2]), (HOUSE[0], C), (("house", True), HOUSE[2]), (HOUSE[0], ("house", -1)), (HOUSE[0], ["house", 2]), (("house",), HOUSE[2])):
            self.refused(self.given(packet(0, right, sender, to)), "shape")

    def test_editions_of_the_library(self):
        row = (("given", packet(0, letter(1, 3))), ())
        error = caught(self, NoTrace, lets_trace, ((), (row,)), library=LIBRARY, roots=(None, None))
        self.assertEqual((error.word, error.at), ("events", (1, 0)))
        row = (("given", packet(0, letter(1, 4))), ())
        error = caught(self, NoTrace, lets_trace, ((), (row,)), library=LIBRARY, roots=(None, None))
        self.assertEqual((error.word, error.at), ("shape", -1))

    def test_one_number_made_a_truth(self):
        """Each number of a whole trace, in turn."""
        for path, thing in places(self.right):
            if thing == 1 or thing == 0:
                changed = replaced(self.right, path, thing == 1 if type(thing) is int else int(thing))
                error = caught(self, NoTrace, lets_trace, changed, library=self.library, roots=self.roots)
                if path[2] == 0:
                    self.assertEqual((error.word, error.at), ("shape", -1))
                else:
                    self.assertEqual((error.word, error.at), ("events", path[:2]))


class Input(Checking):
    def cannot(self, *inputs, place=None):
        """The last input of the last of these views can't be done."""
        trace = [list(view) for view in self.alone(*[view if h < len(inputs) - 1 else view[:-1] for h, view in enumerate(inputs)])]
        trace += [[] for _ in range(len(self.roots) - len(trace))]
        h = len(inputs) - 1
        trace[h].append((inputs[h][-1], ()))
        self.refused(tuple([tuple(view) for view in trace]), "input", (h, len(inputs[h]) - 1))

    def test_acts(self):
        self.cannot((("act", 0),))
        self.cannot((("tick",), ("act", 0), ("act", 0)))
        self.cannot((("tick",), ("act", 1)))
        self.cannot((("tick",),), (("tick",), ("act", 0)))
        self.cannot((("tick",), ("act", 10 ** 30)))
        self.lets(self.alone((("tick",), ("act", 0)), (), ()))

    def test_acts_of_keepers(self):
        self.roots = (plan_of(DO), None, None)
        self.cannot((("tick",), ("act", 0)))
        self.lets(self.alone((("tick",), ("act", 1)), (), ()))

    def test_loads(self):
        for edition in (0, 1, 10 ** 30):
            self.cannot((("load", edition),))
        self.library = (*CODE, *CODE, *CODE)
        for loads in ((0,), (2,), (1, 1), (1, 0), (1, 3), (1, 2, 3), (1, 2, 1)):
            self.cannot(tuple([("load", edition) for edition in loads]))
        self.lets(self.alone((("load", 1), ("load", 2)), (("load", 1),), ()))

    def test_parts_and_meets(self):
        for other in (0, 3, 10 ** 30):
            self.cannot((("part", other),))
            self.cannot((("meet", other),))
        self.cannot((("meet", 1),))
        self.cannot((), (("part", 2), ("part", 2)))
        self.cannot((), (("part", 1),))
        self.cannot((), (("part", 2), ("meet", 2), ("meet", 2)))
        self.cannot((("fall",), ("part", 1)))
        self.cannot((("fall",), ("meet", 2), ("part", 1)))

    def test_given(self):
        for told in (
                packet(0, ("link",), B, C), packet(0, ("link",), B, A), packet(1, ("link",)), packet(0, ("link",), link=1), packet(0, ("link",), sender=at(0, 3)), packet(0, ("link",), sender=at(5, 1)),
                packet(0, ("word", "boss", A, True), HOUSE[0], HOUSE[2]), packet(0, ("word", "boss", A, True), HOUSE[1], HOUSE[1]), packet(7, ("word", "boss", A, True), HOUSE[0], HOUSE[1])):
            self.cannot((), (("given", told),))

    def test_given_by_numbers(self):
        link, first, other = ("given", packet(0, letter(1))), ("given", packet(1, letter(1))), ("given", packet(2, letter(1)))
        self.cannot((), (link, link))
        self.cannot((), (link, other))
        self.cannot((), (link, first, other, first))
        # Each two posts have their own numbers.
        self.cannot((), (link, ("given", packet(1, letter(1), sender=at(1)))))
        self.cannot((), (link, ("given", packet(1, letter(1), to=at(1, 1)))))
        self.cannot((), (link, ("given", packet(1, ("word", "boss", A, True), HOUSE[0], HOUSE[1]))))

    def test_given_over_links(self):
        old, new = packet(0, letter(1)), packet(0, letter(1), link=1)
        self.cannot((), (("part", 0), ("given", old)))
        self.cannot((), (("fall",), ("given", old)))
        self.cannot((), (("part", 0), ("meet", 0), ("given", old)))
        self.cannot((), (("given", old), ("part", 0), ("meet", 0), ("given", packet(1, letter(1)))))
        self.cannot((), (("given", old), ("part", 0), ("meet", 0), ("given", packet(1, letter(1), link=1))))
        self.cannot((), (("given", old), ("part", 0), ("meet", 0), ("given", new), ("given", new)))
        # Other houses' links stay.
        self.cannot((), (("given", old), ("part", 2), ("given", old)))

    def test_the_first_by_house_and_input(self):
        wrong = (("act", 7), ())
        trace = self.trace(*STEPS)
        for h, view in enumerate(trace):
            for j in range(len(view) + 1):
                told = with_view(trace, h, (*view[:j], wrong, *view[j:]))
                self.refused(told, "input", (h, j))
                # Whatever is wrong behind it.
                if j < len(view):
                    self.refused(with_events(told, h, j + 1, (None,)), "input", (h, j))
                if h < 2:
                    self.refused(with_view(told, 2, (wrong, *trace[2])), "input", (h, j))


class Events(Checking):
    def test_others(self):
        trace = self.trace(*STEPS)
        for h, view in enumerate(trace):
            for j, (_, events) in enumerate(view):
                for other in (
                        (*events, None), (None, *events), (*events, ("told", A, 1)), (*events, *events, ()), events[::-1] if len(events) > 1 else (0,), (list(events),),
                        events[:-1] if events else ((),), tuple([list(event) for event in events]) or ([],)):
                    if other != events:
                        self.refused(with_events(trace, h, j, other), "events", (h, j))

    def test_each_place(self):
        trace = self.trace(*STEPS)
        for path, thing in places(trace):
            if len(path) > 3 and path[2] == 1:
                for other in (None, [], "x", -1, (), (thing,), [thing], 10 ** 9):
                    if other != thing:
                        self.refused(replaced(trace, path, other), "events", path[:2])

    def test_none_are_told(self):
        trace = self.trace(*STEPS)
        for h, view in enumerate(trace):
            for j, (_, events) in enumerate(view):
                if events:
                    self.refused(with_events(trace, h, j, ()), "events", (h, j))
                    # Another input further on that can't be done comes later; one ahead comes first.
                    self.refused(with_view(with_events(trace, h, j, ()), h, (*with_events(trace, h, j, ())[h], (("act", 9), ()))), "events", (h, j))

    def test_true_is_no_one(self):
        self.library = doers("tell 1", "tell 0")
        trace = self.trace(("tick", 0), ("act", 0, 0))
        self.lets(trace)
        for k, value, truth in ((1, 1, True), (2, 0, False)):
            events = trace[0][1][1]
            self.assertEqual(events[k], ("told", A, value))
            self.refused(with_events(trace, 0, 1, replaced(events, (k, 2), truth)), "events", (0, 1))
        self.refused(with_events(trace, 0, 0, (("tick", False, 1),)), "events", (0, 0))
        self.refused(with_events(trace, 0, 0, (("tick", 0, True),)), "events", (0, 0))
        # A truth that is one: what a word's packet tells.
        self.library = CODE
        trace = self.trace(("tick", 0), ("act", 0, 0))
        events = trace[0][1][1]
        k = [event[0] for event in events].index("packed", 7)
        self.assertEqual(events[k + 1][1][4], ("word", "boss", A, True))
        self.refused(with_events(trace, 0, 1, replaced(events, (k + 1, 1, 4, 3), 1)), "events", (0, 1))

    def test_another_input_brings_other_events(self):
        trace = self.trace(*STEPS)
        self.refused(with_input(trace, 0, 0, ("part", 1)), "events", (0, 0))
        self.refused(with_input(trace, 1, 0, ("tick",)), "events", (1, 0))


class Sent(Checking):
    def test_what_nobody_sent(self):
        told = packet(0, letter(1))
        self.refused(((), ((("given", told), ()),), ()), "sent", (1, 0))
        self.refused(((), ((("tick",), (("tick", 1, 1),)), (("given", told), ()),), ()), "sent", (1, 1))

    def test_another_packet_than_was_sent(self):
        steps = (("tick", 0), ("act", 0, 0))
        right = packet(0, letter(1))
        for told in (packet(0, letter(2)), packet(0, letter(1, None)), packet(0, letter(1), sender=at(9)), packet(0, letter(1), to=at(9, 1)), packet(0, ("link",))):
            views = self.alone((("tick",), ("act", 0)), (("given", told),), ())
            self.refused(views, "sent", (1, 0))
        self.lets(self.alone((("tick",), ("act", 0)), (("given", right),), ()))
        self.assertEqual(self.trace(*steps, ("come", 0)), self.alone((("tick",), ("act", 0)), (("given", right),), ()))

    def test_the_first_one_behind_all_events(self):
        told, more = ("given", packet(0, letter(1))), ("given", packet(0, letter(1), to=C))
        views = self.alone((), (("tick",), told), (more,))
        self.refused(views, "sent", (1, 1))
        self.refused(with_events(views, 2, 0, (0,)), "events", (2, 0))
        self.refused(with_view(views, 2, (*views[2], (("act", 7), ()))), "input", (2, 1))
        # Ahead of links that are wrong.
        self.refused(self.alone((("part", 1),), (told,), ()), "sent", (1, 0))

    def test_a_packet_of_an_elder_link(self):
        views = self.alone((("tick",), ("act", 0), ("part", 1), ("meet", 1)), (("part", 0), ("meet", 0), ("given", packet(0, letter(1), link=1))), ())
        self.refused(views, "sent", (1, 2))


class Links(Checking):
    def test_one_house_alone_parts_and_meets(self):
        self.refused(self.alone((("part", 1),), (), ()), "links", (0, 1))
        self.refused(self.alone((), (("part", 2),), ()), "links", (1, 2))
        self.refused(self.alone((("part", 2), ("meet", 2)), (), (("part", 0),)), "links", (0, 2))
        self.refused(self.alone((("fall",),), (), ()), "links", (0, 1))
        self.refused(self.alone((("fall",),), (("part", 0),), ()), "links", (0, 2))
        self.refused(self.alone((), (("part", 0),), (("part", 0),)), "links", (0, 1))

    def test_each_sort_of_fellows(self):
        self.lets(self.alone((("part", 1),), (("part", 0),), ()))
        self.lets(self.alone((("part", 1), ("meet", 1)), (("part", 0), ("meet", 0)), ()))
        self.lets(self.alone((("fall",),), (("part", 0),), (("part", 0),)))
        self.lets(self.alone((("part", 1),), (("fall",),), (("part", 1),)))
        self.lets(self.alone((("part", 2),), (("part", 2),), (("fall",),)))
        # While they aren't linked a fall is none of theirs.
        self.lets(self.alone((("part", 1), ("fall",)), (("part", 0), ("fall",)), (("part", 0), ("part", 1))))
        self.lets(self.alone((("fall",), ("fall",), ("fall",)), (("part", 0),), (("part", 0),)))
        self.refused(self.alone((("fall",),), (("fall",),), (("part", 0), ("part", 1))), "links", (0, 1))

    def test_one_by_one(self):
        turn = (("part", 1), ("meet", 1)), (("part", 0), ("meet", 0))
        self.lets(self.alone(turn[0] * 3, turn[1] * 3, ()))
        self.refused(self.alone(turn[0] * 3, turn[1] * 2, ()), "links", (0, 1))
        self.refused(self.alone(turn[0][:1], turn[1], ()), "links", (0, 1))
        self.lets(self.alone((*turn[0], ("fall",)), (*turn[1], ("part", 0)), (("part", 0),)))
        self.refused(self.alone((*turn[0], ("fall",)), turn[1], (("part", 0),)), "links", (0, 1))
        self.lets(self.alone((("fall",), ("meet", 1), ("part", 1)), (("part", 0), ("meet", 0), ("part", 0)), (("part", 0),)))
        self.lets(self.alone((("fall",), ("meet", 1), ("part", 1)), (("part", 0), ("meet", 0), ("fall",)), (("part", 0), ("part", 1))))

    def test_the_first_two_houses(self):
        self.refused(self.alone((("part", 2),), (("part", 2),), ()), "links", (0, 2))
        self.refused(self.alone((("part", 1),), (("part", 2),), (("part", 0),)), "links", (0, 1))
        self.refused(self.alone((), (("part", 2),), (("part", 0),)), "links", (0, 2))


class Ordered(Checking):
    roots = (DO, DO, IT)
    library = doers("send @0.0 hit 1", "send @1.0 hit 1", "send @2.0 hit 1")

    def inputs(self, *words, h):
        """Inputs by words: what each house is given of the two others, a tick, an act."""
        own = at(0, h)
        found = {"tick": ("tick",), "act": ("act", 0)}
        for other in range(3):
            found[f"from {other}"] = ("given", packet(0, letter(1), at(0, other), own))
        return tuple([found[word] for word in words])

    def views(self, *rows):
        return self.alone(*[self.inputs(*row, h=h) for h, row in enumerate(rows)])

    def test_each_waits_for_the_other(self):
        self.refused(self.views(("from 1", "tick", "act"), ("from 0", "tick", "act"), ()), "order", (0, 0, 0))
        self.refused(self.views(("tick", "from 1", "act"), ("from 0", "tick", "act"), ()), "order", (1, 0, 0))
        self.refused(self.views(("tick", "from 1", "act"), ("tick", "from 0", "act"), ("tick",) * 3), "order", (1, 1, 3))
        self.lets(self.views(("tick", "act", "from 1"), ("from 0", "tick", "act"), ()))
        self.lets(self.views(("from 1", "tick", "act"), ("tick", "act", "from 0"), ("from 0", "from 1")))
        self.lets(self.views(("tick", "act", "from 1"), ("tick", "act", "from 0"), ("from 1", "tick", "from 0")))

    def test_what_hangs_on_them_waits_too(self):
        self.refused(self.views(("tick", "from 1", "act"), ("tick", "from 0", "act"), ("tick", "from 0", "tick")), "order", (1, 1, 1))

    def test_many_at_the_most(self):
        # House 2 can be put as far as what it is given is packed.
        trace = self.views(("tick", "act", "tick", "from 1"), ("tick", "tick", "from 0", "act"), ("tick", "from 0", "tick"))
        self.lets(trace)
        self.library = doers("send @0.0 hit 1", "send @1.0 hit 1", "send @2.0 hit 1", last="go do")
        later = ("given", packet(1, letter(1), A, C))
        first = self.inputs("tick", "act", "from 1", "tick", "act", h=0)
        second = self.inputs("from 0", "tick", h=1) + (("given", packet(1, letter(1), A, B)),) + self.inputs("act", h=1)
        third = self.inputs("from 0", h=2) + (later,)
        self.refused(self.alone(first, second, third), "order", (2, 2, 1))

    def test_fellows_at_once(self):
        part = [("part", h) for h in range(3)]
        self.refused(self.alone((part[1], part[2]), (part[2], part[0]), (part[0], part[1])), "order", (0, 0, 0))
        self.lets(self.alone((part[1], part[2]), (part[0], part[2]), (part[0], part[1])))
        self.refused(self.alone((("tick",), part[1], part[2]), (part[2], part[0]), (("tick",), ("tick",), part[0], part[1])), "order", (1, 0, 2))

    def test_a_fall_with_all_its_parts_at_once(self):
        part = [("part", h) for h in range(3)]
        # House 1 parts from 2 ahead of the fall of 0, house 2 behind it: both can't be.
        self.refused(self.alone((("fall",),), (part[2], part[0]), (part[0], part[1])), "order", (0, 0, 0))
        self.lets(self.alone((("fall",),), (part[2], part[0]), (part[1], part[0])))
        self.lets(self.alone((("fall",),), (part[0], part[2]), (part[0], part[1])))
        self.refused(self.alone((("tick",), ("fall",), ("tick",)), (part[0], ("tick",), part[2]), (("tick",), part[1], part[0])), "order", (1, 0, 1))

    def test_what_is_packed_by_a_part(self):
        # Number 0 of house 0 hears of house 1 by parting, ends, and who it has in house 2 is told so.
        self.library, self.roots = doers("link @1.0", "link @2.0"), (DO, IT, IT)
        steps = (("tick", 0), ("act", 0, 0), ("come", 0), ("come", 0), ("part", 0, 1), ("come", 0))
        trace = self.trace(*steps)
        self.lets(trace)
        self.assertEqual(trace[2][-1], (("given", packet(1, ("signal", "parted"), A, C)), (("ended", C, "parted", A),)))
        # House 1 parts from house 2 behind parting from 0, house 2 ahead of the signal that comes of that.
        views = self.alone(
            (("tick",), ("act", 0), ("part", 1)), (("given", packet(0, ("link",), A, B)), ("part", 2), ("part", 0)),
            (("given", packet(0, ("link",), A, C)), ("given", packet(1, ("signal", "parted"), A, C)), ("part", 1)))
        self.refused(views, "order", (2, 1, 1))

    def test_behind_links_that_are_wrong(self):
        part = [("part", h) for h in range(3)]
        self.refused(self.alone((part[1], part[2]), (part[2], part[0]), (part[0],)), "links", (1, 2))


def knots(trace):
    """The places (h, j) of inputs that are done at once, as sets, by what each pair of houses has to do with the other."""
    found = {(h, j): {(h, j)} for h, view in enumerate(trace) for j in range(len(view))}
    for a, view in enumerate(trace):
        for b in range(a):
            rows = []
            for h, other in ((a, b), (b, a)):
                up, own = True, []
                for j, (given, _) in enumerate(trace[h]):
                    if given == ("fall",) and up or given[0] in ("part", "meet") and given[1] == other:
                        own.append((h, j))
                        up = given[0] == "meet"
                rows.append(own)
            for one, other in zip(*rows, strict=True):
                whole = found[one] | found[other]
                for place in whole:
                    found[place] = whole
    return found


def sought(trace):
    """How many inputs of each house can be put one behind the other, sought by what each still waits for."""
    whole = knots(trace)
    packed = {event[1]: (h, j) for h, view in enumerate(trace) for j, (_, events) in enumerate(view) for event in events if event[0] == "packed"}
    waits = {place: set() for place in whole}
    for h, j in whole:
        if j:
            waits[(h, j)].add((h, j - 1))
        given = trace[h][j][0]
        if given[0] == "given":
            waits[(h, j)].add(packed[given[1]])
    put = set()
    while True:
        more = [place for place in whole if place not in put and all(waits[other] - whole[place] <= put for other in whole[place])]
        if not more:
            return tuple([len([place for place in put if place[0] == h]) for h in range(len(trace))])
        put.update(more)


class MadeUp(Checking):
    def test_traces_of_runs_and_spoiled_ones(self):
        """Points 76 and 77: what is let by is the trace of the steps told; what is not was spoiled."""
        maker = Lively(76)
        counts = {}
        for seed in range(70):
            maker.houses = 1 + seed % 3
            self.library = maker.library(3)
            self.roots = maker.roots(self.library)
            land, _ = land_of(self.library, self.roots)
            _, _, log = maker.steps(land, 60)
            trace = trace_of(log, houses=maker.houses)
            self.lets(trace)
            self.assertEqual(self.trace(*steps_for(trace, library=self.library, roots=self.roots)), trace)
            for _ in range(12):
                word = self.judged(self.spoil(maker, trace))
                counts[word] = counts.get(word, 0) + 1
        self.assertLessEqual({"input", "events", "sent", "links", "let by"}, set(counts))

    def test_orders_of_inputs_moved_within_their_views(self):
        """Where views are right each for itself, what is judged is compared with an order sought plainly."""
        maker = Lively(75)
        counts = {"order": 0, "let by": 0}
        for seed in range(100):
            maker.houses = 2 + seed % 2
            self.library = maker.library(1)
            self.roots = maker.roots(self.library)
            land, _ = land_of(self.library, self.roots)
            _, _, log = maker.steps(land, 60)
            views = [[given for given, _ in view] for view in trace_of(log, houses=maker.houses)]
            for _ in range(3):
                for view in views:
                    self.move(maker, view)
                try:
                    trace = self.alone(*views)
                except NoStep:
                    break
                word = self.judged(trace)
                if word in counts:
                    put = sought(trace)
                    lengths = tuple([len(view) for view in trace])
                    self.assertEqual(word, "let by" if put == lengths else "order")
                    if word == "order":
                        self.refused(trace, "order", put)
                    counts[word] += 1
        self.assertGreater(min(counts.values()), 5)

    def move(self, maker, view):
        """One of the inputs, mostly one that is given, to a place ahead, not over another one that is given."""
        places = [j for j, given in enumerate(view) if given[0] == "given" and view[j - 1][0] != "given"]
        if places:
            j = maker.one_of(places)
            given = view.pop(j)
            while j and view[j - 1][0] not in ("given", "part", "meet", "fall"):
                j -= 1
            view.insert(j, given)

    def spoil(self, maker, trace):
        """The trace with rows left out, doubled, or put elsewhere in their views, or with the end of a view cut off."""
        views = [list(view) for view in trace]
        if maker.chance.randrange(3) == 0:
            h = maker.chance.randrange(len(views))
            del views[h][maker.chance.randrange(len(views[h]) + 1):]
        for _ in range(maker.chance.randrange(3)):
            h = maker.chance.randrange(len(views))
            if views[h]:
                j = maker.chance.randrange(len(views[h]))
                row = views[h][j]
                if maker.chance.randrange(3):
                    del views[h][j]
                if maker.chance.randrange(3):
                    views[h].insert(maker.chance.randrange(len(views[h]) + 1), row)
        return tuple([tuple(view) for view in views])

    def judged(self, thing):
        try:
            lets_trace(thing, library=self.library, roots=self.roots)
        except NoTrace as error:
            return error.word
        steps = steps_for(thing, library=self.library, roots=self.roots)
        self.assertEqual(self.trace(*steps), thing)
        return "let by"


if __name__ == "__main__":
    unittest.main()
