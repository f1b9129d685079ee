"""Point 69: steps of plain lands, with points 55, 59, 61 and 62."""

import unittest

from founding import ANY, LIBRARY, at, caught, life
from housing import REST, VOID, house_of, library_of
from landing import DO, IT, behind, doers, first_land, letter, life_at, plan_of
from letterfolk.codereader import read_code
from letterfolk.errors import FolkError, NoStep, RunError
from letterfolk.plainlands import plain_of
from letterfolk.plainsteps import plain_step
from making import kinds_of

A, B, C = at(0), at(0, 1), at(0, 2)
HOUSE = [("house", h) for h in range(3)]


def plain_behind(plain, *steps):
    """The plain land behind the steps."""
    for thing in steps:
        plain, _ = plain_step(plain, thing)
    return plain


def start(*lines, last="go it", roots=(DO, IT, IT)):
    """A plain land whose number 0 of house 0 is ready to do these acts."""
    return plain_behind(plain_of(first_land(doers(*lines, last=last), *roots)), ("tick", 0))


class Refused(unittest.TestCase):
    def setUp(self):
        land = start("send @1.0 hit 1")
        self.plain = plain_behind(land, ("act", 0, 0), ("part", 1, 2))

    def refused(self, thing, word):
        before = repr(self.plain)
        self.assertEqual(caught(self, NoStep, plain_step, self.plain, thing).word, word, thing)
        self.assertEqual(repr(self.plain), before)

    def test_shapes(self):
        wrong = (
            *ANY, (), ("act",), ("act", 0), ("act", 0, 0, 0), ("act", True, 0), ("act", 0, False), ("act", -1, 0), ("act", 0, -1), ("act", "a", 0), ("act", 0, None),
            ["act", 0, 0], ("acts", 0, 0), ("tick",), ("tick", True), ("tick", -1), ("tick", 0, 0), ("part", 0), ("part", 0, True), ("part", 0, -1), ("part", 0, 1, 2),
            ("meet", 0), ("meet", False, 1), ("fall",), ("fall", None), ("fall", -1), ("fall", 0, 1), ("load", 0), ("load", 0, True), ("load", 0, -1), ("load", 0, None),
            ("load", 0, 1, 1), (None, 0), (["act"], 0, 0), (("act",), 0, 0), ("tick", (0,)), ("tick", [0]))
        for thing in wrong:
            self.refused(thing, "shape")

    def test_steps_of_the_other_form(self):
        for thing in (("come", 0), ("again", 0), ("again", A, B), ("come",), ("come", A), ("come", A, B, 0), ("come", 0, 0), ("given", A, B)):
            self.refused(thing, "shape")

    def test_posts_of_no_form(self):
        for post in (
                None, 0, "at", (), ("at", 0), ("at", 0, 0, 0), ("at", True, 0), ("at", 0, False), ("at", -1, 0), ["at", 0, 0], ("house",), ("house", -1), ("house", True),
                ("house", None), ("house", 0, 0), ["house", 0], ("home", 0), ("house", (0,))):
            self.refused(("come", post, B), "shape")
            self.refused(("come", A, post), "shape")

    def test_houses(self):
        for thing in (
                ("act", 3, 0), ("tick", 3), ("part", 0, 3), ("part", 3, 0), ("meet", 3, 4), ("fall", 3), ("load", 3, 1), ("act", 10 ** 30, 0), ("part", 0, 0), ("meet", 1, 1),
                ("part", 7, 7)):
            self.refused(thing, "house")

    def test_acts(self):
        for thing in (("act", 0, 1), ("act", 1, 0), ("act", 0, 0), ("act", 2, 10 ** 30)):
            self.refused(thing, "act")

    def test_links(self):
        for thing in (("part", 1, 2), ("part", 2, 1), ("meet", 0, 1), ("meet", 2, 0)):
            self.refused(thing, "linked")

    def test_editions(self):
        for edition in (0, 1, 2, 10 ** 30):
            self.refused(("load", 0, edition), "edition")

    def test_rows(self):
        for sender, to in (
                (B, A), (A, C), (A, at(1, 1)), (HOUSE[0], HOUSE[1]), (at(0, 9), at(0, 8)), (("house", 9), ("house", 8)), (A, A), (A, HOUSE[1]), (HOUSE[0], B)):
            self.refused(("come", sender, to), "row")

    def test_families_and_names(self):
        for family in (RunError, FolkError, ValueError):
            with self.assertRaises(family):
                plain_step(self.plain, None)
        told = plain_step(thing=("come", A, B), plain=self.plain)
        self.assertEqual(told, plain_step(self.plain, ("come", A, B)))
        self.assertLessEqual(kinds_of(told), {tuple, str, int, bool, type(None)})


class Acts(unittest.TestCase):
    def test_by_the_tree(self):
        """Who looks in vain is not ready; who takes one leaves no mark."""
        library = library_of("be it n\narm hit k : < n k\ntell k\ngo it k")
        mails = tuple([(at(9), 0, ("hit", (k,))) for k in (1, 2)])
        plain = (library, (None,), (house_of({2: life(("it", (5,), 0), mails=mails)}),), (), ())
        self.assertEqual(caught(self, NoStep, plain_step, plain, ("act", 0, 2)).word, "act")
        more = (*mails, (at(9), 0, ("hit", (7,))), mails[0])
        plain = (library, (None,), (house_of({2: life(("it", (5,), 0), mails=more)}),), (), ())
        told, events = plain_step(plain, ("act", 0, 2))
        self.assertEqual([event[0] for event in events], ["took", "told", "went"])
        self.assertEqual(life_at(told, 0, 2), life(("it", (7,), 0), mails=(*mails, mails[0]), since=5))

    def test_a_tree_looks_from_mail_nought_on(self):
        library = library_of("be it\narm hit k : 1\ngo it")
        plain = (library, (None,), (house_of({2: life(IT, mails=((at(9), 0, ("hit", (7,))),), mark=0)}),), (), ())
        self.assertEqual(plain_step(plain, ("act", 0, 2))[1][0][0], "took")

    def test_what_goes_out_comes_behind_its_row(self):
        plain = start("send @1.0 hit 1", "send @2.0 hit 2", "send @1.0 hit 3", "name boss @", last="go do")
        told, events = plain_step(plain, ("act", 0, 0))
        self.assertEqual([event[0] for event in events], ["late", "sent", "sent", "sent", "named", "went"])
        word = ("word", "boss", A, True)
        self.assertEqual(told[4], ((A, B, (letter(1), letter(3))), (A, C, (letter(2),)), (HOUSE[0], HOUSE[1], (word,)), (HOUSE[0], HOUSE[2], (word,))))
        told = plain_behind(told, ("tick", 0), ("act", 0, 0))
        self.assertEqual(told[4][:2], ((A, B, (letter(1), letter(3)) * 2), (A, C, (letter(2),) * 2)))
        self.assertEqual(told[4][2:], ((HOUSE[0], HOUSE[1], (word,)), (HOUSE[0], HOUSE[2], (word,))))

    def test_what_goes_to_houses_that_are_not_linked(self):
        plain = plain_behind(start("send @1.0 hit 1", "watch @1.0", "link @7.0", "name boss @"), ("part", 0, 1))
        told, events = plain_step(plain, ("act", 0, 0))
        self.assertEqual(events, (
            ("late", A), ("sent", A, B, ("hit", (1,))), ("named", A, "boss", A), ("went", A, IT), ("lost", B, A, ("hit", (1,)), "parted"),
            ("ended", A, "parted", at(0, 7)), ("unnamed", A, "boss"), ("lost", A, None, ("down", (B, "parted")), "ended")))
        self.assertEqual(told[4], ((HOUSE[0], HOUSE[2], (("word", "boss", A, False), ("word", "boss", A, True))),))


class Comes(unittest.TestCase):
    def test_the_first_thing_of_a_row(self):
        plain = plain_behind(start("send @1.0 hit 1", "send @1.0 hit 2", "send @2.0 hit 3"), ("act", 0, 0))
        told, events = plain_step(plain, ("come", A, B))
        self.assertEqual(events, ())
        self.assertEqual(life_at(told, 1, 0)[1], (0, ((A, 0, ("hit", (1,))),)))
        self.assertEqual(told[4], ((A, B, (letter(2),)), (A, C, (letter(3),))))
        told, _ = plain_step(told, ("come", A, B))
        self.assertEqual(told[4], ((A, C, (letter(3),)),))
        self.assertEqual(caught(self, NoStep, plain_step, told, ("come", A, B)).word, "row")
        told, _ = plain_step(told, ("come", A, C))
        self.assertEqual(told[4], ())

    def test_addresses(self):
        plain = plain_behind(start("send @1.7 hit 1", "link @1.7", "watch @1.0"), ("act", 0, 0))
        told, events = plain_step(plain, ("come", A, at(7, 1)))
        self.assertEqual(events, (("lost", at(7, 1), A, ("hit", (1,)), "gone"),))
        told, events = plain_step(told, ("come", A, at(7, 1)))
        self.assertEqual((events, told[4]), ((), ((A, B, (("watch",),)), (at(7, 1), A, (("signal", "gone"),)))))
        told, events = plain_step(told, ("come", at(7, 1), A))
        self.assertEqual(events, (("ended", A, "gone", at(7, 1)),))

    def test_houses(self):
        plain = plain_behind(start("name boss @", "name red @"), ("act", 0, 0))
        told, events = plain_step(plain, ("come", HOUSE[0], HOUSE[2]))
        self.assertEqual((events, told[2][2][5], told[2][1][5]), ((), (("boss", A),), ()))
        self.assertEqual(told[4], ((HOUSE[0], HOUSE[1], plain[4][0][2]), (HOUSE[0], HOUSE[2], (("word", "red", A, True),))))


class Others(unittest.TestCase):
    def test_tick(self):
        told, events = plain_step(start(), ("tick", 1))
        self.assertEqual((events, [house[1] for house in told[2]]), ((("tick", 1, 1),), [1, 1, 0]))

    def test_load(self):
        library = (*LIBRARY[:1], LIBRARY[1])
        count = ("count", (3,), 0)
        plain = plain_of(first_land(library, plan_of(count), count))
        told, events = plain_step(plain, ("load", 0, 1))
        led = ("count", (3, 7), 1)
        self.assertEqual(events, (("loaded", 0, 1), ("led", A, (led,))))
        self.assertEqual((told[1], [house[3] for house in told[2]]), ((plan_of(led), count), [(0, 1), (0,)]))

    def test_part(self):
        plain = plain_behind(
            start("send @1.0 hit 1", "send @2.0 hit 2", "link @1.0", "send @1.4 hit 3", "name boss @", last="go do", roots=(DO, DO, IT)), ("act", 0, 0), ("come", HOUSE[0], HOUSE[1]),
            ("tick", 1), ("act", 1, 0))
        for thing in (("part", 0, 1), ("part", 1, 0)):
            told, events = plain_step(plain, thing)
            # Letters alone are lost, not the link, nor the words of both houses.
            self.assertEqual(events, (
                ("parted", 0, 1, 0), ("lost", B, A, ("hit", (1,)), "parted"), ("lost", at(4, 1), A, ("hit", (3,)), "parted"), ("ended", A, "parted", B), ("unnamed", A, "boss")))
            self.assertEqual(told[3], ((0, 1, 0, False), (0, 2, 0, True), (1, 2, 0, True)))
            self.assertEqual([row for row in told[4] if {row[0][1], row[1][1]} == {0, 1}], [])
            self.assertEqual(told[2][1][5], (("boss", B),))

    def test_part_both_ways(self):
        lines = ("send @1.0 hit 1", "send @0.0 hit 2", "send @1.3 hit 3", "send @0.3 hit 4")
        plain = plain_behind(plain_of(first_land(doers(*lines), DO, DO)), ("tick", 0), ("tick", 1), ("act", 1, 0), ("act", 0, 0))
        _, events = plain_step(plain, ("part", 1, 0))
        self.assertEqual(events, (
            ("parted", 0, 1, 0), ("lost", B, A, ("hit", (1,)), "parted"), ("lost", at(3, 1), A, ("hit", (3,)), "parted"),
            ("lost", A, B, ("hit", (2,)), "parted"), ("lost", at(3), B, ("hit", (4,)), "parted")))

    def test_meet(self):
        plain = plain_behind(start("name boss @"), ("act", 0, 0), ("part", 0, 1))
        told, events = plain_step(plain, ("meet", 1, 0))
        self.assertEqual((events, told[3][0]), ((("met", 0, 1, 1),), (0, 1, 1, True)))
        self.assertEqual(told[4], ((HOUSE[0], HOUSE[1], (("word", "boss", A, True),)), (HOUSE[0], HOUSE[2], (("word", "boss", A, True),))))

    def test_fall(self):
        plain = plain_behind(start("send @1.0 hit 1", "send @ hit 2", "link @2.0", roots=(DO, IT, IT)), ("act", 0, 0), ("come", A, C))
        told, events = plain_step(plain, ("fall", 0))
        self.assertEqual(events, (
            ("fell", 0, (A,)), ("lost", A, A, ("hit", (2,)), "fallen"), ("parted", 0, 1, 0), ("lost", B, A, ("hit", (1,)), "parted"),
            ("parted", 0, 2, 0), ("ended", C, "parted", A), ("made", at(1), None, DO)))
        self.assertEqual(told[2][0], (0, 1, 2, (0,), ((1, life(DO, since=1)),), ()))
        self.assertEqual(told[4], ())

    def test_no_events_of_packets(self):
        plain = start("send @1.0 hit 1", "name boss @", "link @1.0", last="end 'odd")
        words = []
        for thing in (("act", 0, 0), ("come", A, B), ("come", A, B), ("come", HOUSE[0], HOUSE[1]), ("come", A, B), ("part", 0, 1), ("meet", 0, 1), ("fall", 1)):
            plain, events = plain_step(plain, thing)
            words.extend([event[0] for event in events])
        self.assertEqual({"packed", "came", "given"} & set(words), set())
        self.assertLessEqual({"late", "sent", "ended", "parted", "met", "fell"}, set(words))


if __name__ == "__main__":
    unittest.main()
