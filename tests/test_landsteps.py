"""Points 55 to 63: steps of lands."""

import unittest

from founding import ANY, LIBRARY, at, caught, life
from housing import REST, VOID, library_of
from landing import DO, IT, behind, doers, events_of, first_land, house_at, letter, life_at, pair_of, plan_of
from letterfolk.codereader import read_code
from letterfolk.errors import FolkError, NoStep, RunError
from letterfolk.lands import land_of
from letterfolk.landsteps import ready_steps, step
from letterfolk.wires import things_on_way
from making import kinds_of

A, B, C = at(0), at(0, 1), at(0, 2)
HOUSE = [("house", h) for h in range(3)]
COUNT = ("count", (3,), 0)


def start(*lines, last="go it", roots=(DO, IT, IT)):
    """A land whose number 0 of house 0 is ready to do these acts."""
    return behind(first_land(doers(*lines, last=last), *roots), ("tick", 0))


def word(name, address, has=True):
    return ("word", name, address, has)


class Refused(unittest.TestCase):
    def setUp(self):
        self.start = behind(start("send @1.0 hit 1", "send @1.0 hit 2"), ("act", 0, 0), ("come", 0), ("part", 1, 2))

    def refused(self, thing, name):
        before = repr(self.start)
        self.assertEqual(caught(self, NoStep, step, self.start, thing).word, name, thing)
        self.assertEqual(repr(self.start), before)

    def test_shapes(self):
        wrong = (
            *ANY, (), ("act",), ("act", 0), ("act", 0, 0, 0), ("act", True, 0), ("act", 0, False), ("act", -1, 0), ("act", 0, -1), ("act", "a", 0), ("act", 0, None),
            ["act", 0, 0], ("acts", 0, 0), ("come",), ("come", 0, 0), ("come", True), ("come", -1), ("come", A, B), ("again",), ("again", False), ("again", -2),
            ("tick",), ("tick", True), ("tick", -1), ("tick", 0, 0), ("part", 0), ("part", 0, True), ("part", 0, -1), ("part", 0, 1, 2), ("meet", 0), ("meet", False, 1),
            ("meet", 0, 1, 1), ("fall",), ("fall", None), ("fall", -1), ("fall", 0, 1), ("load", 0), ("load", 0, True), ("load", 0, -1), ("load", 0, None),
            ("load", 0, 1, 1), (None, 0), (["act"], 0, 0), (("act",), 0, 0), ("tick", (0,)), ("tick", [0]), ("given", 0), ("", 0), (0, 0, 0), ("act", 0, "0"))
        for thing in wrong:
            self.refused(thing, "shape")

    def test_houses(self):
        for thing in (
                ("act", 3, 0), ("tick", 3), ("part", 0, 3), ("part", 3, 0), ("meet", 3, 4), ("fall", 3), ("load", 3, 1), ("act", 10 ** 30, 0), ("part", 0, 0), ("meet", 1, 1),
                ("part", 7, 7), ("meet", 0, 0), ("load", 9, 9)):
            self.refused(thing, "house")

    def test_one_house_alone(self):
        land = first_land(doers(), DO)
        for thing, name in ((("part", 0, 0), "house"), (("meet", 0, 1), "house"), (("tick", 1), "house"), (("act", 0, 0), "act"), (("come", 0), "packet")):
            self.assertEqual(caught(self, NoStep, step, land, thing).word, name)

    def test_acts(self):
        for thing in (("act", 0, 1), ("act", 2, 0), ("act", 0, 0), ("act", 2, 10 ** 30)):
            self.refused(thing, "act")
        self.assertEqual(step(self.start, ("act", 1, 0))[1][0][0], "took")

    def test_packets(self):
        for thing in (("come", 1), ("come", 10 ** 30), ("again", 1), ("again", 2), ("again", 3), ("again", 10 ** 30)):
            self.refused(thing, "packet")
        land = first_land(doers(), DO, DO)
        for thing in (("come", 0), ("again", 0)):
            self.assertEqual(caught(self, NoStep, step, land, thing).word, "packet")

    def test_links(self):
        for thing in (("part", 1, 2), ("part", 2, 1), ("meet", 0, 1), ("meet", 2, 0)):
            self.refused(thing, "linked")

    def test_editions(self):
        for edition in (0, 1, 2, 10 ** 30):
            self.refused(("load", 0, edition), "edition")
        land = first_land(LIBRARY, REST)
        for loaded, edition in ((0, 0), (0, 2), (1, 1), (1, 3), (3, 4), (3, 3)):
            told = behind(land, *[("load", 0, k) for k in range(1, loaded + 1)])
            self.assertEqual(caught(self, NoStep, step, told, ("load", 0, edition)).word, "edition")

    def test_families_and_names(self):
        for family in (RunError, FolkError, ValueError):
            with self.assertRaises(family):
                step(self.start, None)
        told = step(thing=("come", 0), land=self.start)
        self.assertEqual(told, step(self.start, ("come", 0)))
        self.assertEqual(kinds_of(told), {tuple, str, int, bool, type(None)})


class Deeds(unittest.TestCase):
    def test_act(self):
        land = first_land(doers("tell @", "send @ hit 5"), DO, DO)
        land = behind(land, ("tick", 1))
        told, events = step(land, ("act", 1, 0))
        self.assertEqual(events, (("late", B), ("told", B, B), ("sent", B, B, ("hit", (5,))), ("went", B, IT)))
        self.assertEqual(life_at(told, 1, 0), life(IT, mails=((B, 0, ("hit", (5,))),), since=1))
        self.assertEqual(told[2][0], land[2][0])

    def test_an_act_by_rows(self):
        # Who looks in vain is ready, and its mark alone turns.
        land = behind(start("send @1.0 bye"), ("act", 0, 0), ("come", 0))
        self.assertEqual(ready_steps(land), (("act", 1, 0),))
        told, events = step(land, ("act", 1, 0))
        self.assertEqual((events, life_at(told, 1, 0)), ((), life(IT, mails=((A, 0, ("bye", ())),), mark=1)))
        self.assertEqual(caught(self, NoStep, step, told, ("act", 1, 0)).word, "act")

    def test_tick(self):
        land = first_land(doers(), DO, DO)
        for k in range(1, 4):
            land, events = step(land, ("tick", 1))
            self.assertEqual(events, (("tick", 1, k),))
            self.assertEqual([house[1] for house in land[2]], [0, k])

    def test_load(self):
        plan = plan_of(COUNT, None)
        land = first_land(LIBRARY, plan, COUNT)
        led = ("count", (3, 7), 1)
        land, events = step(land, ("load", 0, 1))
        self.assertEqual(events, (("loaded", 0, 1), ("led", A, (led, None))))
        self.assertEqual((land[1], [house[3] for house in land[2]]), ((plan_of(led, None), COUNT), [(0, 1), (0,)]))
        land, events = step(land, ("load", 1, 1))
        self.assertEqual((events, land[1]), ((("loaded", 1, 1),), (plan_of(led, None), led)))
        land, events = step(land, ("load", 0, 2))
        tally = ("tally", (-4,), 2)
        self.assertEqual(events, (
            ("loaded", 0, 2), ("led", A, (tally, None)), ("ended", at(1), "old", None), ("anew", A, 0, at(2)), ("made", at(2), A, tally)))
        self.assertEqual(land[1], (plan_of(tally, None), led))

    def test_what_goes_out_by_a_load(self):
        text = "be do\nlate 1\nlink @1.0\nname boss @\ngo do\n"
        library = library_of(*[text + "be it\nlate 1\ngo it"] * 3)
        land = behind(first_land(library, DO, IT), ("tick", 0), ("act", 0, 0), ("load", 0, 1))
        told, events = step(land, ("load", 0, 2))
        self.assertEqual(events, (
            ("loaded", 0, 2), ("ended", A, "old", None), ("unnamed", A, "boss"), ("packed", (0, HOUSE[0], HOUSE[1], 1, word("boss", A, False))),
            ("packed", (0, A, B, 1, ("signal", "old")))))
        self.assertEqual(told[4][2:], tuple([event[1] for event in events[3:]]))

    def test_a_root_that_is_led_nowhere(self):
        library = library_of(*["be rest\nlate 1\ngo rest"] * 3)
        land = behind(first_land(library, REST), ("load", 0, 1))
        self.assertEqual(land[1], (REST,))
        land, events = step(land, ("load", 0, 2))
        self.assertEqual((land[1], events), ((None,), (("loaded", 0, 2), ("ended", A, "old", None))))
        self.assertEqual(events_of(land, ("fall", 0)), (("fell", 0, ()),))


class Comes(unittest.TestCase):
    """Point 60."""

    def land(self, *ks):
        """House 0 has sent letters 0, 1, 2, 3 to number 0 of house 1; these came, by their numbers."""
        land = behind(start(*[f"send @1.0 hit {k}" for k in range(4)]), ("act", 0, 0))
        for k in ks:
            land = behind(land, ("come", [packet[3] for packet in land[4]].index(k)))
        return land

    def packet(self, k):
        return (0, A, B, k, letter(k))

    def came(self, land, thing):
        """(land, events) of a packet that comes, its came left out, and the word of that one."""
        before = land
        land, events = step(land, thing)
        packets = before[4] if thing[0] == "come" else before[5]
        packet = packets[thing[1]]
        self.assertEqual(events[0][:2], ("came", packet))
        if thing[0] == "come":
            left = before[4][:thing[1]] + before[4][thing[1] + 1:]
            self.assertEqual(land[4][:len(left)], left)
            self.assertEqual(land[5], (*before[5], packet))
        else:
            self.assertEqual(land[4:], before[4:])
        return land, events[1:], events[0][2]

    def row(self, land):
        rows = pair_of(land, 0, 1)[4]
        self.assertEqual([row[:2] for row in rows], [(A, B)])
        return rows[0][2:]

    def mails(self, land):
        return [mail[2][1][0] for mail in life_at(land, 1, 0)[1][1]]

    def test_taken(self):
        land = self.land()
        self.assertEqual(self.row(land), (4, 0, ()))
        land, events, told = self.came(land, ("come", 0))
        self.assertEqual((events, told), ((("given", self.packet(0)),), "taken"))
        self.assertEqual((self.row(land), self.mails(land)), ((4, 1, ()), [0]))

    def test_kept(self):
        for k in (1, 2, 3):
            land, events, told = self.came(self.land(), ("come", k))
            self.assertEqual((events, told), ((), "kept"))
            self.assertEqual((self.row(land), self.mails(land)), ((4, 0, ((k, letter(k)),)), []))
        land = self.land(3, 1)
        self.assertEqual(self.row(land), (4, 0, ((1, letter(1)), (3, letter(3)))))

    def test_those_kept_are_given_in_a_row(self):
        land, events, told = self.came(self.land(1, 2), ("come", 0))
        self.assertEqual((events, told), (tuple([("given", self.packet(k)) for k in range(3)]), "taken"))
        self.assertEqual((self.row(land), self.mails(land)), ((4, 3, ()), [0, 1, 2]))
        # As long as the next one is there.
        land, events, _ = self.came(self.land(3, 1), ("come", 0))
        self.assertEqual(events, tuple([("given", self.packet(k)) for k in range(2)]))
        self.assertEqual((self.row(land), self.mails(land)), ((4, 2, ((3, letter(3)),)), [0, 1]))

    def test_any_order(self):
        for order in ((0, 1, 2, 3), (3, 2, 1, 0), (2, 0, 3, 1), (1, 3, 0, 2)):
            land = self.land(*order)
            self.assertEqual((self.row(land), self.mails(land)), ((4, 4, ()), [0, 1, 2, 3]))
            self.assertEqual([packet[3] for packet in land[5]], list(order))

    def test_again(self):
        # Below given, and among those kept.
        for ks, k in (((0,), 0), ((0, 1), 0), ((0, 1), 1), ((2,), 0), ((0, 3, 2), 1)):
            land = self.land(*ks)
            told, events, name = self.came(land, ("again", k))
            self.assertEqual((events, name, told), ((), "again", land))

    def test_elder(self):
        for steps in ((("part", 0, 1),), (("part", 0, 1), ("meet", 0, 1)), (("fall", 1), ("meet", 0, 1)), (("fall", 0),)):
            land = behind(self.land(0, 2), *steps)
            for thing in (("again", 0), ("again", 1), ("come", 0), ("come", 1)):
                told, events, name = self.came(land, thing)
                self.assertEqual((events, name), ((), "elder"))
                self.assertEqual(told[:4], land[:4])

    def test_it_waits_over_a_part_and_a_meet(self):
        lines = ("send @1.0 hit 1",)
        land = behind(start(*lines, last="go do"), ("act", 0, 0), ("part", 0, 1), ("meet", 0, 1), ("tick", 0), ("act", 0, 0))
        old, new = (0, A, B, 0, letter(1)), (1, A, B, 0, letter(1))
        self.assertEqual(land[4], (old, new))
        land, events, name = self.came(land, ("come", 0))
        self.assertEqual((events, name, self.row(land)), ((), "elder", (1, 0, ())))
        land, events, name = self.came(land, ("come", 0))
        self.assertEqual((events, name, self.row(land)), ((("given", new),), "taken", (1, 1, ())))
        self.assertEqual(self.came(land, ("again", 0))[2], "elder")
        self.assertEqual(self.came(land, ("again", 1))[2], "again")

    def test_what_goes_out_is_packed_ahead_of_the_next(self):
        # Links to two that don't live, and a letter between them, come in contrary order.
        land = behind(start("link @1.7", "send @1.7 hit 1", "watch @1.7"), ("act", 0, 0), ("come", 2), ("come", 1))
        far = at(7, 1)
        land, events, name = self.came(land, ("come", 0))
        self.assertEqual((name, events), ("taken", (
            ("given", (0, A, far, 0, ("link",))), ("packed", (0, far, A, 0, ("signal", "gone"))), ("given", (0, A, far, 1, letter(1))),
            ("lost", far, A, ("hit", (1,)), "gone"), ("given", (0, A, far, 2, ("watch",))), ("packed", (0, far, A, 1, ("down", "gone"))))))

    def test_words_are_told(self):
        land = behind(start("name boss @", "name red @"), ("act", 0, 0))
        first = (0, HOUSE[0], HOUSE[1], 0, word("boss", A))
        self.assertEqual(land[4][0], first)
        land, events, name = self.came(land, ("come", 0))
        self.assertEqual((name, events, house_at(land, 1)[5]), ("taken", (("given", first),), (("boss", A),)))
        # Those of one house to another, the second ahead of the first.
        land = behind(start("name boss @", last="end 'done"), ("act", 0, 0))
        land, _, name = self.came(land, ("come", 2))
        self.assertEqual((name, house_at(land, 1)[5]), ("kept", ()))
        land, events, _ = self.came(land, ("come", 0))
        self.assertEqual(len(events), 2)
        self.assertEqual(house_at(land, 1)[5], ())

    def test_signals_and_downs(self):
        land = behind(start("link @1.0", "watch @1.0", last="go do", roots=(DO, DO, IT)), ("act", 0, 0), ("come", 0), ("come", 0))
        self.assertEqual(life_at(land, 1, 0)[2:4], ((A,), (A,)))
        told = behind(land, ("fall", 0))
        self.assertEqual(life_at(told, 1, 0), None)


class Parts(unittest.TestCase):
    """Point 61."""

    def test_the_event_whichever_way_it_is_told(self):
        for thing in (("part", 0, 2), ("part", 2, 0)):
            land, events = step(start(), thing)
            self.assertEqual((events, land[3]), ((("parted", 0, 2, 0),), ((0, 1, 0, True, ()), (0, 2, 0, False, ()), (1, 2, 0, True, ()))))
        for thing in (("meet", 0, 2), ("meet", 2, 0)):
            told, events = step(land, thing)
            self.assertEqual((events, pair_of(told, 0, 2)), ((("met", 0, 2, 1),), (0, 2, 1, True, ())))

    def test_link_by_link(self):
        land = start()
        for link in range(4):
            land, events = step(land, ("part", 0, 1))
            self.assertEqual((events, pair_of(land, 0, 1)), ((("parted", 0, 1, link),), (0, 1, link, False, ())))
            land, events = step(land, ("meet", 1, 0))
            self.assertEqual((events, pair_of(land, 0, 1)), ((("met", 0, 1, link + 1),), (0, 1, link + 1, True, ())))

    def test_letters_on_the_way_are_lost(self):
        lines = ("send @1.0 hit 0", "send @1.0 hit 1", "send @1.3 hit 2", "send @1.0 hit 3", "link @1.3", "send @2.0 hit 4", "name boss @", "send @1.0 hit 5")
        land = behind(start(*lines), ("act", 0, 0))
        # Number 0 is given, number 2 is kept: those not given are lost, by their numbers.
        land = behind(land, ("come", 0), ("come", 2))
        told, events = step(land, ("part", 1, 0))
        self.assertEqual(events, (
            ("parted", 0, 1, 0), *[("lost", B, A, ("hit", (k,)), "parted") for k in (1, 3, 5)], ("lost", at(3, 1), A, ("hit", (2,)), "parted"),
            ("ended", A, "parted", at(3, 1)), ("unnamed", A, "boss"), ("packed", (0, HOUSE[0], HOUSE[2], 1, word("boss", A, False)))))
        self.assertEqual(told[4][:-1], land[4])
        self.assertEqual(told[5], land[5])
        self.assertEqual(pair_of(told, 0, 1), (0, 1, 0, False, ()))

    def test_rows_of_both_ways_rise(self):
        lines = ("send @1.0 hit 1", "send @0.0 hit 2", "send @1.3 hit 3", "send @0.3 hit 4")
        land = behind(first_land(doers(*lines), DO, DO), ("tick", 0), ("tick", 1), ("act", 1, 0), ("act", 0, 0))
        self.assertEqual(events_of(land, ("part", 1, 0)), (
            ("parted", 0, 1, 0), ("lost", B, A, ("hit", (1,)), "parted"), ("lost", at(3, 1), A, ("hit", (3,)), "parted"),
            ("lost", A, B, ("hit", (2,)), "parted"), ("lost", at(3), B, ("hit", (4,)), "parted")))

    def linked(self):
        """Numbers 0 of three houses, each linked to the two others, and named."""
        lines = ("link @0.0", "link @1.0", "link @2.0", "name boss @")
        land = behind(first_land(doers(*lines), DO, DO, DO), *[(name, h, *more) for h in range(3) for name, *more in (("tick",), ("act", 0))])
        while land[4]:
            land = behind(land, ("come", 0))
        return land

    def test_the_lesser_one_leaves_first(self):
        land = self.linked()
        self.assertEqual([house[5] for house in land[2]], [tuple([("boss", one) for one in (A, B, C)])] * 3)
        for thing in (("part", 1, 2), ("part", 2, 1)):
            told, events = step(land, thing)
            self.assertEqual(events, (
                ("parted", 1, 2, 0), ("ended", B, "parted", C), ("unnamed", B, "boss"),
                ("packed", (0, HOUSE[1], HOUSE[0], 1, word("boss", B, False))), ("packed", (0, B, A, 1, ("signal", "parted"))),
                ("ended", C, "parted", B), ("unnamed", C, "boss"),
                ("packed", (0, HOUSE[2], HOUSE[0], 1, word("boss", C, False))), ("packed", (0, C, A, 1, ("signal", "parted")))))
            self.assertEqual([house[5] for house in told[2]], [(("boss", A), ("boss", B), ("boss", C)), (("boss", A),), (("boss", A),)])

    def test_words_of_the_other_one_go(self):
        land = behind(start("name boss @", "name red @", roots=(DO, DO, DO)), ("act", 0, 0), ("tick", 1), ("act", 1, 0))
        while land[4]:
            land = behind(land, ("come", 0))
        told, events = step(land, ("part", 0, 1))
        self.assertEqual(events, (("parted", 0, 1, 0),))
        self.assertEqual([house[5] for house in told[2]], [
            (("boss", A), ("red", A)), (("boss", B), ("red", B)), (("boss", A), ("boss", B), ("red", A), ("red", B))])

    def test_a_meet_tells_own_words(self):
        land = behind(start("name red @", "name boss @", roots=(DO, DO, DO)), ("act", 0, 0), ("tick", 1), ("act", 1, 0), ("tick", 2), ("act", 2, 0), ("part", 0, 1))
        while land[4]:
            land = behind(land, ("come", 0))
        # What a house was told by the third one it doesn't tell.
        self.assertEqual([len(house[5]) for house in land[2]], [4, 4, 6])
        for thing in (("meet", 0, 1), ("meet", 1, 0)):
            told, events = step(land, thing)
            packets = (
                *[(1, HOUSE[0], HOUSE[1], k, word(name, A)) for k, name in enumerate(("boss", "red"))],
                *[(1, HOUSE[1], HOUSE[0], k, word(name, B)) for k, name in enumerate(("boss", "red"))])
            self.assertEqual(events, (("met", 0, 1, 1), *[("packed", packet) for packet in packets]))
            self.assertEqual(told[4], packets)
            self.assertEqual(pair_of(told, 0, 1), (0, 1, 1, True, ((HOUSE[0], HOUSE[1], 2, 0, ()), (HOUSE[1], HOUSE[0], 2, 0, ()))))

    def test_who_watches(self):
        land = behind(start("watch @1.0"), ("act", 0, 0), ("come", 0))
        self.assertEqual(life_at(land, 1, 0)[3], (A,))
        told, events = step(land, ("part", 0, 1))
        self.assertEqual(events, (("parted", 0, 1, 0),))
        self.assertEqual(life_at(told, 1, 0), life(IT))
        self.assertEqual(life_at(told, 0, 0), life(IT, mails=((None, None, ("down", (B, "parted"))),), since=1))


class Falls(unittest.TestCase):
    """Point 62."""

    def test_all_folk_with_their_letters(self):
        lines = ("make k it free", "make k rest free", "send @0.0 hit 1", "send @0.1 hit 2", "send @0.2 hit 3", "send @0.1 hit 4", "name boss @")
        library = ((read_code("be do\nlate 1\n" + "\n".join(lines) + "\ngo it\nbe it\narm no : 1\ngo it\nbe rest\nlate 9\ngo rest"), VOID),)
        land = behind(first_land(library, DO), ("tick", 0), ("act", 0, 0), ("act", 0, 0))
        self.assertEqual(life_at(land, 0, 0)[1][0], 1)
        told, events = step(land, ("fall", 0))
        self.assertEqual(events, (
            ("fell", 0, (A, at(1), at(2))), ("lost", A, A, ("hit", (1,)), "fallen"), ("lost", at(1), A, ("hit", (2,)), "fallen"),
            ("lost", at(1), A, ("hit", (4,)), "fallen"), ("lost", at(2), A, ("hit", (3,)), "fallen"), ("made", at(3), None, DO)))
        self.assertEqual(told[2], ((0, 1, 4, (0,), ((3, life(DO, since=1)),), ()),))

    def test_a_letter_of_the_house_itself(self):
        land = behind(start("trap 1", "link @1.7"), ("act", 0, 0), ("come", 0), ("come", 0))
        self.assertEqual(events_of(land, ("fall", 0))[:2], (
            ("fell", 0, (A,)), ("lost", A, None, ("exit", (at(7, 1), "gone")), "fallen")))

    def test_made_clock_and_loaded_stay(self):
        land = behind(first_land(LIBRARY, COUNT, None), ("load", 0, 1), ("tick", 0), ("tick", 0))
        told, events = step(land, ("fall", 0))
        led = ("count", (3, 7), 1)
        self.assertEqual(events, (("fell", 0, (A,)), ("parted", 0, 1, 0), ("made", at(1), None, led)))
        self.assertEqual(told[2][0], (0, 2, 2, (0, 1), ((1, life(led, since=2)),), ()))
        self.assertEqual(told[1], (led, None))

    def test_each_linked_house_parts(self):
        land = Parts().linked()
        told, events = step(land, ("fall", 1))
        self.assertEqual(events, (
            ("fell", 1, (B,)),
            ("parted", 0, 1, 0), ("ended", A, "parted", B), ("unnamed", A, "boss"), ("packed", (0, HOUSE[0], HOUSE[2], 1, word("boss", A, False))),
            ("packed", (0, A, C, 1, ("signal", "parted"))),
            ("parted", 1, 2, 0), ("ended", C, "parted", B), ("unnamed", C, "boss"), ("packed", (0, HOUSE[2], HOUSE[0], 1, word("boss", C, False))),
            ("packed", (0, C, A, 1, ("signal", "parted"))), ("made", at(1, 1), None, DO)))
        self.assertEqual([pair[2:4] for pair in told[3]], [(0, False), (0, True), (0, False)])
        self.assertEqual(house_at(told, 1), (1, 1, 2, (0,), ((1, life(DO, since=1)),), ()))
        self.assertEqual([house[5] for house in told[2]], [(("boss", C),), (), (("boss", A),)])

    def test_letters_on_the_way(self):
        lines = ("send @1.0 hit 1", "send @2.0 hit 2", "send @1.0 hit 3")
        land = behind(start(*lines, roots=(DO, DO, IT)), ("act", 0, 0), ("tick", 1), ("act", 1, 0))
        self.assertEqual(events_of(land, ("fall", 1)), (
            ("fell", 1, (B,)), ("lost", B, B, ("hit", (1,)), "fallen"), ("lost", B, B, ("hit", (3,)), "fallen"),
            ("parted", 0, 1, 0), ("lost", B, A, ("hit", (1,)), "parted"), ("lost", B, A, ("hit", (3,)), "parted"),
            ("parted", 1, 2, 0), ("lost", C, B, ("hit", (2,)), "parted"), ("made", at(1, 1), None, DO)))

    def test_who_is_not_linked_hears_nothing(self):
        land = behind(Parts().linked(), ("part", 0, 1))
        events = events_of(land, ("fall", 1))
        self.assertEqual([event for event in events if event[0] in ("parted", "fell")], [("fell", 1, ()), ("parted", 1, 2, 0)])
        told = behind(land, ("fall", 1), ("fall", 1))
        self.assertEqual(events_of(told, ("fall", 1)), (("fell", 1, (at(2, 1),)), ("made", at(3, 1), None, DO)))

    def test_a_plan_and_none(self):
        plan = plan_of(REST, None)
        library = library_of("be rest\nlate 9\ngo rest")
        told, events = step(first_land(library, plan, None), ("fall", 0))
        keeper = ("keeper", "one", 3, 5, (REST, None), (at(3), None), ())
        self.assertEqual(events, (("fell", 0, (A, at(1))), ("parted", 0, 1, 0), ("made", at(2), None, keeper), ("made", at(3), at(2), REST)))
        told, events = step(told, ("fall", 1))
        self.assertEqual((events, told[2][1]), ((("fell", 1, ()),), (1, 0, 0, (0,), (), ())))


class ReadySteps(unittest.TestCase):
    def test_quiet(self):
        self.assertEqual(ready_steps(first_land(doers(), DO, DO)), ())
        self.assertIs(type(ready_steps(first_land(doers(), None))), tuple)

    def test_in_order(self):
        lines = ("make k do free", "make k do free", "send @1.1 hit 1", "send @0.1 hit 1", "send @2.0 hit 1")
        land = behind(first_land(doers(*lines), DO, DO, None), ("tick", 1), ("act", 1, 0), ("tick", 0), ("act", 0, 0))
        told = ready_steps(land=land)
        self.assertEqual(told, (("act", 0, 1), ("act", 1, 1), *[("come", k) for k in range(len(land[4]))]))
        for h in (0, 1):
            land = behind(land, ("tick", h))
        self.assertEqual(ready_steps(land)[:4], (("act", 0, 1), ("act", 0, 2), ("act", 1, 1), ("act", 1, 2)))

    def test_all_of_them_can_be_done(self):
        land = behind(start("send @1.0 hit 1", "send @ hit 1", "link @2.0", roots=(DO, DO, DO)), ("act", 0, 0), ("tick", 1), ("tick", 2))
        told = ready_steps(land)
        self.assertEqual(told, (("act", 0, 0), ("act", 1, 0), ("act", 2, 0), ("come", 0), ("come", 1)))
        for thing in told:
            self.assertEqual(len(step(land, thing)), 2)
        self.assertEqual(kinds_of(told), {tuple, str, int})

    def test_elder_packets_may_come_too(self):
        land = behind(start("send @1.0 hit 1"), ("act", 0, 0), ("part", 0, 1))
        self.assertEqual(ready_steps(land), (("come", 0),))


class OnTheWay(unittest.TestCase):
    def test_between_linked_houses_alone(self):
        land = behind(start("send @1.0 hit 1", "send @1.0 hit 2", "send @2.0 hit 3"), ("act", 0, 0), ("come", 1))
        self.assertEqual(things_on_way(land), ((A, B, (letter(1), letter(2))), (A, C, (letter(3),))))
        land = behind(land, ("part", 0, 1), ("meet", 0, 1))
        self.assertEqual(things_on_way(land), ((A, C, (letter(3),)),))
        self.assertEqual(land_of(land[0], land[1])[0], first_land(land[0], *land[1]))


if __name__ == "__main__":
    unittest.main()
