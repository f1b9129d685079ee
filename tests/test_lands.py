"""Points 53, 54 and 55: lands at the beginning, and what goes out of houses."""

import unittest

from founding import LIBRARY, Founder, at, life
from housing import REST, VOID, house_of, library_of
from landing import DO, IT, behind, doers, events_of, first_land, house_at, letter, life_at, pair_of
from letterfolk.ends import rooted
from letterfolk.houses import void_house
from letterfolk.lands import land_of
from letterfolk.landsteps import step
from making import kinds_of

COUNT = ("count", (3,), 0)
HOUSE = [("house", h) for h in range(4)]


def word(name, address, has=True):
    return ("word", name, address, has)


def packed(sender, to, number, thing, link=0):
    return ("packed", (link, sender, to, number, thing))


class LandOf(unittest.TestCase):
    def test_one_house(self):
        land, events = land_of(LIBRARY, (None,))
        self.assertEqual((land, events), ((LIBRARY, (None,), (void_house(0),), (), (), ()), ()))

    def test_houses_of_nobody(self):
        for many in (2, 3, 4):
            land, events = land_of(LIBRARY, (None,) * many)
            pairs = tuple([(a, b, 0, True, ()) for a in range(many) for b in range(many) if a < b])
            self.assertEqual(land, (LIBRARY, (None,) * many, tuple([void_house(h) for h in range(many)]), pairs, (), ()))
            self.assertEqual(events, ())

    def test_states(self):
        land, events = land_of(LIBRARY, (REST, COUNT))
        self.assertEqual(events, (("made", at(0), None, REST), ("made", at(0, 1), None, COUNT)))
        self.assertEqual(land, (
            LIBRARY, (REST, COUNT), ((0, 0, 1, (0,), ((0, life(REST)),), ()), (1, 0, 1, (0,), ((0, life(COUNT)),), ())), ((0, 1, 0, True, ()),), (), ()))

    def test_plans_and_none(self):
        plan = ("plan", "all", 2, 3, (REST, None, ("plan", "one", 0, 1, (COUNT,))))
        land, events = land_of(LIBRARY, (None, plan, REST))
        self.assertEqual(land[1], (None, plan, REST))
        told, made, _ = rooted(void_house(1), plan)
        self.assertEqual(events, (*made, ("made", at(0, 2), None, REST)))
        self.assertEqual(land[2][1], told)
        self.assertEqual(told[2], 4)
        self.assertEqual(land[2][0], void_house(0))

    def test_house_by_house(self):
        _, events = land_of(LIBRARY, (REST,) * 4)
        self.assertEqual([event[1] for event in events], [at(0, h) for h in range(4)])

    def test_kinds_names_and_what_is_handed_in(self):
        roots = (REST, ("plan", "all", 2, 3, (COUNT, None)))
        told = land_of(roots=roots, library=LIBRARY)
        self.assertEqual(told, land_of(LIBRARY, roots))
        self.assertEqual(kinds_of(told), {tuple, str, int, bool, type(None)})
        self.assertEqual(roots, (REST, ("plan", "all", 2, 3, (COUNT, None))))

    def test_made_up_ones(self):
        founder = Founder(54)
        for _ in range(60):
            library = founder.library()
            roots = tuple([founder.row(library[:1]) for _ in range(founder.chance.randrange(1, 4))])
            land, events = land_of(library, roots)
            told = []
            for h, root in enumerate(roots):
                house, made, _ = (void_house(h), (), ()) if root is None else rooted(void_house(h), root)
                told.extend(made)
                self.assertEqual(land[2][h], house)
            self.assertEqual((land[:2], land[4:], events), ((library, roots), ((), ()), tuple(told)))


class Packed(unittest.TestCase):
    """Point 55, by acts of one in a house of three."""

    def act(self, *lines, last="go it", ahead=(), roots=(DO, IT, IT)):
        """(land, events) of the act of number 0 of house 0, what is its being late left out."""
        land = behind(first_land(doers(*lines, last=last), *roots), ("tick", 0), *ahead)
        land, events = step(land, ("act", 0, 0))
        self.assertEqual(events[0], ("late", at(0)))
        return land, events[1:]

    def test_letters(self):
        land, events = self.act("send @1.0 hit 1", "send @2.0 hit 2", "send @1.0 hit 3", "send @1.7 hit 4")
        packets = ((0, at(0), at(0, 1), 0, letter(1)), (0, at(0), at(0, 2), 0, letter(2)), (0, at(0), at(0, 1), 1, letter(3)), (0, at(0), at(7, 1), 0, letter(4)))
        self.assertEqual(land[4:], (packets, ()))
        self.assertEqual([event[0] for event in events], ["sent"] * 4 + ["went"] + ["packed"] * 4)
        self.assertEqual(events[5:], tuple([("packed", packet) for packet in packets]))
        self.assertEqual(land[3], (
            (0, 1, 0, True, ((at(0), at(0, 1), 2, 0, ()), (at(0), at(7, 1), 1, 0, ()))), (0, 2, 0, True, ((at(0), at(0, 2), 1, 0, ()),)), (1, 2, 0, True, ())))

    def test_other_things(self):
        _, events = self.act("link @1.0", "watch @1.0", "unlink @1.0", "name boss @", "link @2.0")
        self.assertEqual(events[2:], (
            packed(at(0), at(0, 1), 0, ("link",)), packed(at(0), at(0, 1), 1, ("watch",)), packed(at(0), at(0, 1), 2, ("unlink",)),
            packed(HOUSE[0], HOUSE[1], 0, word("boss", at(0))), packed(HOUSE[0], HOUSE[2], 0, word("boss", at(0))), packed(at(0), at(0, 2), 0, ("link",))))
        self.assertEqual(events[:2], (("named", at(0), "boss", at(0)), ("went", at(0), IT)))

    def test_an_end_with_words_and_signals(self):
        _, events = self.act("name boss @", "link @2.0", last="end 'odd")
        self.assertEqual(events, (
            ("named", at(0), "boss", at(0)), ("ended", at(0), "odd", None), ("unnamed", at(0), "boss"),
            packed(HOUSE[0], HOUSE[1], 0, word("boss", at(0))), packed(HOUSE[0], HOUSE[2], 0, word("boss", at(0))), packed(at(0), at(0, 2), 0, ("link",)),
            packed(HOUSE[0], HOUSE[1], 1, word("boss", at(0), False)), packed(HOUSE[0], HOUSE[2], 1, word("boss", at(0), False)),
            packed(at(0), at(0, 2), 1, ("signal", "odd"))))

    def test_words_go_to_linked_houses_alone(self):
        _, events = self.act("name boss @", ahead=(("part", 0, 1),))
        self.assertEqual(events[2:], (packed(HOUSE[0], HOUSE[2], 0, word("boss", at(0))),))
        _, events = self.act("name boss @", ahead=(("part", 0, 2), ("part", 1, 2)))
        self.assertEqual(events[2:], (packed(HOUSE[0], HOUSE[1], 0, word("boss", at(0))),))
        _, events = self.act("name boss @", ahead=(("part", 0, 2), ("part", 0, 1)))
        self.assertEqual(events[2:], ())
        _, events = self.act("name boss @", roots=(DO,))
        self.assertEqual(events[2:], ())

    def test_by_the_link_there_is(self):
        _, events = self.act("send @1.0 hit 1", "name boss @", ahead=(("part", 0, 1), ("meet", 1, 0), ("part", 1, 0), ("meet", 0, 1)))
        self.assertEqual(events[3:], (
            packed(at(0), at(0, 1), 0, letter(1), 2), packed(HOUSE[0], HOUSE[1], 0, word("boss", at(0)), 2), packed(HOUSE[0], HOUSE[2], 0, word("boss", at(0)))))

    def test_letters_where_houses_are_not_linked(self):
        for ahead, house in ((("part", 0, 1),), 1), ((), 3), ((), 99):
            land, events = self.act(f"send @{house}.0 hit 1", "send @2.0 hit 2", ahead=ahead)
            to = at(0, house)
            self.assertEqual(events, (
                ("sent", at(0), to, ("hit", (1,))), ("sent", at(0), at(0, 2), ("hit", (2,))), ("went", at(0), IT),
                ("lost", to, at(0), ("hit", (1,)), "parted"), packed(at(0), at(0, 2), 0, letter(2))))
            self.assertEqual(len(land[4]), 1)

    def test_a_letter_of_no_edition_is_lost_from_its_post(self):
        """Number 0 of house 1 looks in vain at an elder letter, and tells so when its sender's house has parted."""
        texts = ("be do\nlate 1\nsend @1.0 hit 1\ngo it\n", "be do\nlate 1\ngo it\n", "be do\nlate 1\ngo it\n")
        library = library_of(*[text + "be it\narm hit k : 1\ngo it\nlate 1\ngo it" for text in texts])
        tables = (VOID, ((("it", ("it", ())),), ()), VOID)
        library = tuple([(code, table) for (code, _), table in zip(library, tables)])
        steps = (
            ("tick", 0), ("act", 0, 0), ("load", 1, 1), ("tick", 1), ("act", 1, 0), ("come", 0), ("part", 0, 1))
        events = events_of(first_land(library, DO, IT), *steps, ("act", 1, 0))
        unseen = ("unseen", (at(0, 1), "hit"))
        self.assertEqual(events, (("lost", at(0, 1), at(0), ("hit", (1,)), "unseen"), ("lost", at(0), at(0, 1), unseen, "parted")))
        events = events_of(first_land(library, DO, IT), *steps[:-1], ("act", 1, 0))
        self.assertEqual(events[1:], (packed(at(0, 1), at(0), 0, ("letter", None, unseen)),))

    def test_a_link_to_a_parted_house_is_heard_at_once(self):
        for house, ahead in ((1, (("part", 0, 1),)), (3, ())):
            land, events = self.act(f"link @{house}.0", "send @2.0 hit 2", ahead=ahead)
            self.assertEqual(events, (
                ("sent", at(0), at(0, 2), ("hit", (2,))), ("went", at(0), IT), ("ended", at(0), "parted", at(0, house)),
                packed(at(0), at(0, 2), 0, letter(2))))
            self.assertEqual(life_at(land, 0, 0), None)

    def test_all_that_comes_of_it_ahead_of_the_next(self):
        lines = ("link @2.0", "make k it linked", "name red k", "link @1.0", "send @2.0 hit 2")
        _, events = self.act(*lines, ahead=(("part", 0, 1),))
        told = [event for event in events if event[0] in ("ended", "unnamed", "packed")]
        self.assertEqual(told, [
            packed(at(0), at(0, 2), 0, ("link",)), packed(HOUSE[0], HOUSE[2], 0, word("red", at(1))),
            ("ended", at(0), "parted", at(0, 1)), ("ended", at(1), "parted", at(0)), ("unnamed", at(1), "red"),
            packed(HOUSE[0], HOUSE[2], 1, word("red", at(1), False)), packed(at(0), at(0, 2), 1, ("signal", "parted")), packed(at(0), at(0, 2), 2, letter(2))])

    def test_a_link_that_comes_back_ahead_of_a_name(self):
        # So another house keeps the pair of one who doesn't live, as point 57 tells.
        land, events = self.act("link @1.0", "name boss @", ahead=(("part", 0, 1),))
        self.assertEqual(events[-4:], (
            ("ended", at(0), "parted", at(0, 1)), ("unnamed", at(0), "boss"), packed(HOUSE[0], HOUSE[2], 0, word("boss", at(0), False)),
            packed(HOUSE[0], HOUSE[2], 1, word("boss", at(0)))))
        land = behind(land, ("come", 0), ("come", 0))
        self.assertEqual((house_at(land, 0)[5], house_at(land, 2)[5]), ((), (("boss", at(0)),)))
        self.assertEqual(house_at(behind(land, ("part", 2, 0)), 2)[5], ())

    def test_who_traps_and_who_watches(self):
        land, events = self.act("trap 1", "link @1.0", "watch @1.0", "watch @7.0", ahead=(("part", 0, 1),))
        self.assertEqual(events, (("went", at(0), IT),))
        mails = tuple([(None, None, (tag, (at(0, house), "parted"))) for tag, house in (("exit", 1), ("down", 1), ("down", 7))])
        self.assertEqual(life_at(land, 0, 0), life(IT, mails=mails, traps=True, since=1))

    def test_each_thing_brings_its_own_alone(self):
        # A letter, an unlink, or a signal that goes nowhere brings no down, though its sender watches that one then.
        land, events = self.act("trap 1", "send @1.0 hit 1", "watch @1.1", "link @1.1", "unlink @1.0", "watch @1.0", "link @1.0", ahead=(("part", 0, 1),))
        self.assertEqual(events[2:], (("lost", at(0, 1), at(0), ("hit", (1,)), "parted"),))
        told = (("down", 1), ("exit", 1), ("down", 0), ("exit", 0))
        self.assertEqual(life_at(land, 0, 0)[1][1], tuple([(None, None, (tag, (at(n, 1), "parted"))) for tag, n in told]))

    def test_a_link_of_one_who_has_ended(self):
        _, events = self.act("link @1.0", "watch @1.0", ahead=(("part", 0, 1),), last="end 'odd")
        self.assertEqual(events, (("ended", at(0), "odd", None),))

    def test_other_things_go_nowhere(self):
        land, events = self.act("unlink @1.0", "unlink @7.0", ahead=(("part", 0, 1),))
        self.assertEqual((events, land[4]), ((("went", at(0), IT),), ()))


class Rows(unittest.TestCase):
    def test_pairs_and_rows_rise(self):
        lines = [f"send @{house}.{n} hit 1" for house, n in ((2, 9), (1, 3), (2, 0), (1, 11), (0, 0))]
        library = doers(*lines, "name boss @")
        land = behind(first_land(library, DO, DO, DO), *[(word, h, *more) for h in range(3) for word, *more in (("tick",), ("act", 0))])
        self.assertEqual([pair[:4] for pair in land[3]], [(0, 1, 0, True), (0, 2, 0, True), (1, 2, 0, True)])
        for a, b, _, _, rows in land[3]:
            self.assertEqual(list(rows), sorted(rows))
            self.assertEqual({frozenset((row[0][1], row[1][1])) for row in rows}, {frozenset((a, b))})
        self.assertEqual([row[:3] for row in pair_of(land, 0, 1)[4]], [
            (at(0), at(3, 1), 1), (at(0), at(11, 1), 1), (at(0, 1), at(0), 1), (HOUSE[0], HOUSE[1], 1), (HOUSE[1], HOUSE[0], 1)])

    def test_a_house_of_others_stays(self):
        land = first_land(doers("send @1.0 hit 1"), DO, IT)
        self.assertEqual(behind(land, ("tick", 0), ("act", 0, 0))[2][1], land[2][1])
        self.assertEqual(house_of({}, clock=0, made=0), void_house(0))


if __name__ == "__main__":
    unittest.main()
