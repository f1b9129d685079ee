"""Point 74: the trace of a log, house by house."""

import unittest

from founding import at
from letterfolk.traces import trace_of
from making import kinds_of

HIT = ("hit", (1,))
REST = ("rest", (), 0)
A0, A1, B0, B1, C0 = at(0), at(1), at(0, 1), at(1, 1), at(0, 2)


def packet(sender, to, number=0, link=0, thing=("letter", 0, HIT)):
    return (link, sender, to, number, thing)


def lost(to, sender, why, letter=HIT):
    return ("lost", to, sender, letter, why)


class TraceOf(unittest.TestCase):
    def check(self, log, *views):
        self.assertEqual(trace_of(log, houses=len(views)), views)

    def test_no_step(self):
        self.assertEqual(trace_of((), houses=1), ((),))
        self.assertEqual(trace_of((), houses=3), ((), (), ()))

    def test_act(self):
        events = (("took", B0, A0, 0, HIT, HIT), ("sent", B0, C0, HIT), lost(C0, B0, "parted"), ("made", B1, B0, REST), ("went", B0, REST),
                  ("packed", packet(B0, A0)))
        self.check(((("act", 1, 0), events),), (), ((("act", 0), events),), ())
        self.check(((("act", 0, 5), ()),), ((("act", 5), ()),), ())

    def test_tick(self):
        self.check(((("tick", 1), (("tick", 1, 4),)),), (), ((("tick",), (("tick", 1, 4),)),))

    def test_load(self):
        events = (("loaded", 0, 2), ("led", A0, (REST,)), ("ended", A1, "old", None), lost(B0, A1, "parted"))
        self.check(((("load", 0, 2), events),), ((("load", 2), events),), ())

    def test_in_the_order_of_the_log(self):
        log = (
            (("tick", 0), (("tick", 0, 1),)), (("tick", 1), (("tick", 1, 1),)), (("act", 0, 3), (("told", at(3), 1),)), (("tick", 0), (("tick", 0, 2),)),
            (("load", 1, 1), (("loaded", 1, 1),)), (("act", 0, 3), (("told", at(3), 2),)))
        self.check(
            log,
            ((("tick",), (("tick", 0, 1),)), (("act", 3), (("told", at(3), 1),)), (("tick",), (("tick", 0, 2),)), (("act", 3), (("told", at(3), 2),))),
            ((("tick",), (("tick", 1, 1),)), (("load", 1), (("loaded", 1, 1),))),
            ())

    def test_come_without_a_given_one(self):
        for word in ("come", "again"):
            for why in ("elder", "again", "kept"):
                self.check((((word, 2), (("came", packet(A0, B0), why),)),), (), ())

    def test_come_with_one_given(self):
        one = packet(A0, B0)
        for word in ("come", "again"):
            log = (((word, 0), (("came", one, "taken"), ("given", one))),)
            self.check(log, (), ((("given", one), ()),))
            events = (lost(B0, A0, "gone"), ("packed", packet(B0, A0)), lost(C0, B0, "parted"))
            log = (((word, 0), (("came", one, "taken"), ("given", one), *events)),)
            self.check(log, (), ((("given", one), events),))

    def test_come_with_several_given(self):
        packets = [packet(B0, A1, number) for number in range(3)]
        first, second = (lost(A1, B0, "gone"),), (("ended", A1, "odd", B0), ("packed", packet(A1, B0)))
        log = ((("come", 4), (("came", packets[0], "taken"), ("given", packets[0]), *first, ("given", packets[1]), ("given", packets[2]), *second)),)
        self.check(log, ((("given", packets[0]), first), (("given", packets[1]), ()), (("given", packets[2]), second)), ())

    def test_a_word_is_given_to_its_house(self):
        one = packet(("house", 0), ("house", 2), thing=("word", "boss", A0, True))
        self.check(((("come", 0), (("came", one, "taken"), ("given", one))),), (), (), ((("given", one), ()),))

    def test_an_input_is_the_event(self):
        one = packet(A0, B0, 7, 3)
        told = trace_of(((("come", 0), (("came", one, "taken"), ("given", one))),), houses=2)
        self.assertEqual(told[1][0][0], ("given", (3, A0, B0, 7, ("letter", 0, HIT))))

    def test_part(self):
        events = (
            ("parted", 0, 2, 5), lost(C0, A0, "parted"), lost(A1, C0, "parted"), ("ended", A0, "parted", C0), ("unnamed", A0, "boss"), lost(A0, None, "ended"),
            ("packed", packet(A0, B0, 1, 0, ("signal", "parted"))), ("ended", C0, "parted", A0), ("packed", packet(("house", 2), ("house", 1))))
        first = (events[0], *events[3:7])
        second = (events[0], *events[7:])
        self.check(((("part", 0, 2), events),), ((("part", 2), first),), (), ((("part", 0), second),))
        self.check(((("part", 2, 0), events),), ((("part", 2), first),), (), ((("part", 0), second),))

    def test_meet(self):
        words = [("packed", packet(("house", h), ("house", other), 0, 2, ("word", "boss", at(0, h), True))) for h, other in ((1, 2), (2, 1))]
        events = (("met", 1, 2, 2), *words)
        for step in (("meet", 1, 2), ("meet", 2, 1)):
            self.check(((step, events),), (), ((("meet", 2), (events[0], words[0])),), ((("meet", 1), (events[0], words[1])),))

    def test_fall(self):
        events = (
            ("fell", 1, (B0, B1)), lost(B0, A0, "fallen"), lost(B1, None, "fallen", ("exit", (A0, "odd"))), ("parted", 0, 1, 0), lost(B0, A1, "parted"),
            ("ended", A0, "parted", B0), ("packed", packet(A0, C0)), ("parted", 1, 2, 3), lost(C0, C0, "ended"), lost(C0, B1, "parted"),
            ("made", at(2, 1), None, REST), ("packed", packet(("house", 1), ("house", 3))))
        log = ((("fall", 1), events),)
        self.check(
            log,
            ((("part", 1), (events[3], events[5], events[6])),),
            ((("fall",), (events[0], events[1], events[2], events[3], events[7], events[10], events[11])),),
            ((("part", 1), (events[7], events[8])),),
            ())

    def test_fall_of_one_that_is_linked_to_nobody(self):
        events = (("fell", 0, ()), ("made", A0, None, REST))
        self.check(((("fall", 0), events),), ((("fall",), events),), ())

    def test_fall_of_the_first_and_the_last_house(self):
        # The numbers of links are no numbers of houses.
        for h, pairs in ((0, ((0, 1), (0, 2))), (2, ((0, 2), (1, 2))), (1, ((0, 1), (1, 2)))):
            for link in range(4):
                parted = [("parted", a, b, link) for a, b in pairs]
                told = trace_of(((("fall", h), (("fell", h, ()), *parted)),), houses=3)
                for house in range(3):
                    own = tuple([event for event in parted if house in event[1:3]])
                    right = (("fall",), (("fell", h, ()), *own)) if house == h else (("part", h), own)
                    self.assertEqual(told[house], (right,))

    def test_each_kind_of_event(self):
        """In a part, a meet, a fall: whose each event is, by the address that stands first in it."""
        for h, here, other in ((0, A0, C0), (2, C0, A0)):
            mine = (
                ("lost", here, other, HIT, "gone"), ("lost", here, other, HIT, "keeper"), ("lost", here, other, HIT, "unseen"), ("lost", here, other, HIT, "ended"),
                ("lost", here, None, HIT, "fallen"), ("took", here, other, 0, HIT, HIT), ("late", here), ("sent", here, other, HIT), ("told", here, other),
                ("asked", here, "boss", other), ("made", here, other, REST), ("made", here, None, REST), ("named", here, "boss", other), ("went", here, REST),
                ("ended", here, "odd", other), ("ended", here, "odd", None), ("unnamed", here, "boss"), ("anew", here, 1, other), ("led", here, (REST,)),
                ("packed", packet(here, other)), ("packed", packet(("house", h), ("house", 2 - h))))
            none = (("lost", here, other, HIT, "parted"), ("lost", other, here, HIT, "parted"), ("lost", here, None, HIT, "parted"))
            for event in (*mine, *none):
                own = (event,) if event in mine else ()
                for step, head in ((("part", 0, 2), ("parted", 0, 2, 1)), (("meet", 0, 2), ("met", 0, 2, 1)), (("fall", 1), ("parted", 0, 1, 1))):
                    views = trace_of(((step, (head, ("parted", 1, 2, 1), event) if step[0] == "fall" else (head, event)),), houses=3)
                    for house in (0, 2):
                        self.assertEqual(len(views[house]), 1)
                        found = tuple([one for one in views[house][0][1] if one[0] not in ("parted", "met")])
                        self.assertEqual(found, own if house == h else (), (step, event))

    def test_a_loss_by_parting_stands_where_it_is_alone(self):
        loss = lost(C0, A0, "parted")
        one = packet(C0, A0)
        self.check(((("act", 0, 0), (loss,)),), ((("act", 0), (loss,)),), (), ())
        self.check(((("tick", 0), (("tick", 0, 1), loss)),), ((("tick",), (("tick", 0, 1), loss)),), (), ())
        self.check(((("load", 0, 1), (("loaded", 0, 1), loss)),), ((("load", 1), (("loaded", 0, 1), loss)),), (), ())
        self.check(((("come", 0), (("came", one, "taken"), ("given", one), loss)),), ((("given", one), (loss,)),), (), ())
        self.check(((("part", 0, 2), (("parted", 0, 2, 0), loss)),), ((("part", 2), (("parted", 0, 2, 0),)),), (), ((("part", 0), (("parted", 0, 2, 0),)),))

    def test_kinds_and_names(self):
        log = ((("tick", 0), (("tick", 0, 1),)), (("part", 0, 1), (("parted", 0, 1, 0),)), (("meet", 0, 1), (("met", 0, 1, 1),)))
        told = trace_of(houses=2, log=log)
        self.assertEqual(kinds_of(told), {tuple, str, int})
        self.assertEqual([len(view) for view in told], [3, 2])
        self.assertEqual(kinds_of(trace_of((), houses=2)), {tuple})
        with self.assertRaises(TypeError):
            trace_of(log, 2)


if __name__ == "__main__":
    unittest.main()
