"""Points 4, 33, 34 and 43: who is ready, and what an act of one brings."""

import unittest

from founding import ANY, at, caught, life
from housing import REST, VOID, doer, doing, house_of, keeper, library_of, told_of
from letterfolk.acting import acted, ready
from letterfolk.codereader import read_code
from letterfolk.errors import FolkError, NoFolk, NoStep, RunError
from making import TOP, kinds_of

HERE, NEXT = at(2), at(3)
AWAY = at(4, 1)
HIT = ("hit", (7,))
TOOK = ("took", HERE, at(9), 0, HIT, HIT)
WENT = ("went", HERE, ("it", (3,), 0))
# Late after 3 ticks; takes a big of a number above n.
WAITS = library_of("be wait n\narm big k : < n k\ntell k\ngo wait k\nlate 3\ngo wait 0")


def big(k, sender=at(1)):
    return (sender, 0, ("big", (k,)))


class Ready(unittest.TestCase):
    def ready(self, folk, rows, tree, library=WAITS, **more):
        house = house_of(folk, **more)
        self.assertEqual(ready(library, house), rows)
        self.assertEqual(ready(library, house, by="rows"), rows)
        self.assertEqual(ready(library, house, by="tree"), tree)
        for by, numbers in (("rows", rows), ("tree", tree)):
            for n in folk:
                if n in numbers:
                    self.assertEqual(len(acted(library, house, n, by=by)), 3)
                else:
                    self.assertEqual(caught(self, NoStep, acted, library, house, n, by=by).word, "still")

    def one(self, mails=(), mark=0, since=5):
        return {2: life(("wait", (10,), 0), mails=mails, mark=mark, since=since)}

    def test_nobody(self):
        self.ready({}, (), ())

    def test_more_mails_than_its_mark(self):
        self.ready(self.one((big(11),)), (2,), (2,))
        # By the tree only who would find one, or lose one: who looks in vain is ready by rows alone.
        self.ready(self.one((big(10),)), (2,), ())
        self.ready(self.one((big(10),), mark=1), (), ())
        self.ready(self.one((big(10), big(4)), mark=1), (2,), ())
        self.ready(self.one((big(10), big(4), big(11)), mark=1), (2,), (2,))

    def test_unseen_and_waiting_ones(self):
        library = (*WAITS, *WAITS)
        one = {2: life(("wait", (10,), 1), mails=((at(1), 0, ("big", (11,))),), since=5)}
        self.ready(one, (2,), (2,), library, loaded=(0, 1))
        waiting = {2: life(("wait", (10,), 0), mails=((at(1), 1, ("big", (11,))),), since=5)}
        self.ready(waiting, (2,), (), library, loaded=(0, 1))

    def test_ticks_of_late_at_the_edge(self):
        self.ready(self.one(), (), ())
        for clock, is_late in ((6, False), (7, False), (8, True), (9, True), (100, True)):
            numbers = (2,) if is_late else ()
            self.ready(self.one(), numbers, numbers, clock=clock)
            self.ready(self.one((big(1),), mark=1), numbers, numbers, clock=clock)
        self.ready(self.one(since=3), (), ())
        self.ready(self.one(since=2), (2,), (2,))

    def test_a_wait_below_one_and_of_no_number_is_one(self):
        for wait in ("0", "-7", "'red", "@", "n"):
            library = library_of(f"be wait n\nlate {wait}\nend 'done")
            folk = {2: life(("wait", ("red",), 0), since=5)}
            self.ready(folk, (), (), library)
            self.ready(folk, (2,), (2,), library, clock=6)

    def test_a_wait_by_the_state_and_the_address(self):
        library = library_of("be wait n\nlate + n = @ @0.2\nend 'done")
        for clock, numbers in ((5, ()), (6, ()), (7, (3,)), (8, (2, 3))):
            self.ready({2: life(("wait", (2,), 0), since=5), 3: life(("wait", (2,), 0), since=5)}, numbers, numbers, library, clock=clock)

    def test_none_without_a_late(self):
        self.ready({2: life(("wait", (1,), 0), since=0)}, (), (), library_of("be wait n\narm hit : 1\nend 'done"), clock=10 ** 6)

    def test_rising_numbers_and_no_keeper(self):
        folk = {n: life(("wait", (10,), 0), mails=(big(11),)) for n in (7, 0, 12, 3)}
        self.ready(folk, (0, 3, 7, 12), (0, 3, 7, 12))
        folk[1] = life(keeper(None, most=0))
        folk[3] = life(("wait", (10,), 0), since=5)
        self.ready(folk, (0, 7, 12), (0, 7, 12))

    def test_kinds_and_names(self):
        house = house_of({n: life(("wait", (10,), 0), mails=(big(11),)) for n in (1, 0)})
        told = ready(house=house, by="tree", library=WAITS)
        self.assertEqual((told, kinds_of(told)), ((0, 1), {tuple, int}))
        with self.assertRaises(TypeError):
            ready(WAITS, house, "tree")


class Refused(unittest.TestCase):
    def test_nobody_ahead_of_still(self):
        house = house_of({0: life(("wait", (1,), 0), mails=(big(5),)), 1: life(("wait", (1,), 0), mails=(big(5),))})
        for by in ("rows", "tree"):
            for number in (2, 19, 20, -1, TOP, True, False, None, "0", "rows", [1], [], (0,), at(0), *ANY):
                self.assertIs(caught(self, NoFolk, acted, WAITS, house, number, by=by).address, number)
        for family in (RunError, FolkError, ValueError):
            with self.assertRaises(family):
                acted(WAITS, house, None)

    def test_a_keeper_is_still(self):
        house = house_of({0: life(keeper(1), has=(at(1),)), 1: life(REST, has=(at(0),))})
        for by in ("rows", "tree"):
            self.assertEqual(caught(self, NoStep, acted, WAITS, house, 0, by=by).word, "still")

    def test_a_behaviour_called_keeper_is_none(self):
        library = library_of("be keeper\nlate 1\nend 'done")
        house = house_of({0: life(("keeper", (), 0))})
        self.assertEqual(ready(library, house), (0,))
        self.assertEqual(acted(library, house, 0)[1], (("late", at(0)), ("ended", at(0), "done", None)))

    def test_still(self):
        house = house_of({0: life(("wait", (1,), 0), mails=(big(1),), mark=1, since=5)})
        refused = caught(self, NoStep, acted, WAITS, house, 0)
        self.assertEqual(refused.word, "still")


class Act(unittest.TestCase):
    """Each act is looked at by rows and by the tree: but for marks they come to the same."""

    def act(self, library, folk, n=2, **more):
        house = house_of(folk, **more)
        told = acted(library, house, n)
        house_by_tree, events, outs = acted(library, house, n, by="tree")
        self.assertEqual((events, outs), told[1:])
        self.assertEqual([self.unmarked(pair) for pair in house_by_tree[4]], [self.unmarked(pair) for pair in told[0][4]])
        self.assertEqual((*house_by_tree[:4], house_by_tree[5]), (*told[0][:4], told[0][5]))
        if told_of(house_by_tree, n) is not None:
            self.assertEqual(told_of(house_by_tree, n)[1][0], 0)
        return told

    def unmarked(self, pair):
        n, (what, mailbox, *others) = pair
        return (n, what, mailbox[1], *others)

    def do(self, *lines, last="go it n", folk=(), **more):
        """What comes of the acts of number 2, the event of its taking left out."""
        house, events, outs = self.act(doer(*lines, last=last), {2: doing(), **dict(folk)}, **more)
        self.assertEqual(events[0], TOOK)
        return house, events[1:], outs


class Taking(Act):
    def test_took(self):
        house, events, outs = self.act(doer(), {2: doing()})
        self.assertEqual((events, outs), ((TOOK, WENT), ()))
        self.assertEqual(house, house_of({2: life(("it", (3,), 0), since=5)}))

    def test_the_first_that_fits_in_the_order_of_coming(self):
        mails = (big(4), big(11), big(12))
        house, events, outs = self.act(WAITS, {2: life(("wait", (10,), 0), mails=mails, since=5)})
        letter = ("big", (11,))
        self.assertEqual(events, (("took", HERE, at(1), 0, letter, letter), ("told", HERE, 11), ("went", HERE, ("wait", (11,), 0))))
        self.assertEqual(told_of(house, 2), life(("wait", (11,), 0), mails=(big(4), big(12)), since=5))

    def test_nothing_found_turns_the_mailbox_alone(self):
        one = life(("wait", (10,), 0), mails=(big(4), big(5), big(6)), mark=1, since=5, has=(at(1),), traps=True)
        house = house_of({2: one})
        told = acted(WAITS, house, 2)
        self.assertEqual(told, (house_of({2: life(("wait", (10,), 0), mails=(big(4), big(5), big(6)), mark=3, since=5, has=(at(1),), traps=True)}), (), ()))
        self.assertEqual(caught(self, NoStep, acted, WAITS, told[0], 2).word, "still")

    def test_the_mark_counts_by_rows_alone(self):
        # No run comes to this house: who is ahead of the mark fits. So it is seen from where one looks.
        folk = {2: life(("wait", (10,), 0), mails=(big(11), big(12)), mark=1, since=5)}
        letter = ("big", (12,))
        self.assertEqual(acted(WAITS, house_of(folk), 2)[1][0], ("took", HERE, at(1), 0, letter, letter))
        letter = ("big", (11,))
        self.assertEqual(acted(WAITS, house_of(folk), 2, by="tree")[1][0], ("took", HERE, at(1), 0, letter, letter))

    def test_the_tree_leaves_no_mark(self):
        mails = (big(4), (at(1), 0, ("none", ())), big(5))
        folk = {2: life(("wait", (10,), 0), mails=mails, mark=2, since=2), 3: life(("wait", (10,), 0), mails=mails, mark=2, since=5)}
        house, events, _ = acted(WAITS, house_of(folk), 2, by="tree")
        self.assertEqual(events, (("late", HERE), ("went", HERE, ("wait", (0,), 0))))
        self.assertEqual(told_of(house, 2), life(("wait", (0,), 0), mails=mails, since=5))
        self.assertEqual(told_of(house, 3), folk[3])

    def test_late(self):
        house, events, outs = self.act(doer("tell n", wait=3), {2: life(("it", (3,), 0), since=2)})
        self.assertEqual((events, outs), ((("late", HERE), ("told", HERE, 3), WENT), ()))
        self.assertEqual(told_of(house, 2), life(("it", (3,), 0), since=5))

    def test_a_letter_ahead_of_being_late(self):
        house, events, _ = self.act(WAITS, {2: life(("wait", (10,), 0), mails=(big(4), big(11)), since=0)})
        self.assertEqual([event[0] for event in events], ["took", "told", "went"])
        house, events, _ = self.act(WAITS, {2: life(("wait", (10,), 0), mails=(big(4), big(5)), since=0)})
        self.assertEqual(events, (("late", HERE), ("went", HERE, ("wait", (0,), 0))))
        self.assertEqual(told_of(house, 2), life(("wait", (0,), 0), mails=(big(4), big(5)), since=5))

    def test_it_waits_anew_in_the_same_state(self):
        library = library_of("be wait\narm hit : 1\ngo wait\nlate 3\nend 'done")
        house, _, _ = self.act(library, {2: life(("wait", (), 0), mails=((at(1), 0, ("hit", ())),), since=0)})
        self.assertEqual(ready(library, house), ())
        self.assertEqual(ready(library, (0, 7, *house[2:])), ())
        self.assertEqual(ready(library, (0, 8, *house[2:])), (2,))

    def test_a_mail_of_the_house_itself(self):
        library = library_of("be it n\narm exit who why : = why 'odd\ntell who\nend 'done")
        mails = ((None, None, ("exit", (AWAY, "odd"))),)
        _, events, _ = self.act(library, {2: life(("it", (3,), 0), mails=mails)})
        letter = ("exit", (AWAY, "odd"))
        self.assertEqual(events, (("took", HERE, None, None, letter, letter), ("told", HERE, AWAY), ("ended", HERE, "done", None)))

    def test_ends(self):
        for last, reason in (("end 'done", "done"), ("end 'worse", "worse"), ("end 7", "odd"), ("end @", "odd"), ("end n", "odd")):
            house, events, outs = self.do(last=last)
            self.assertEqual((house, events, outs), (house_of({}), (("ended", HERE, reason, None),), ()))

    def test_the_folk_of_another_house_number(self):
        one = life(("it", (3,), 0), mails=((at(9, 2), 0, HIT),))
        house, events, outs = self.act(doer("send @1.3 hi", "send @ hi", last="go rest"), {3: one}, n=3, h=1)
        me = at(3, 1)
        self.assertEqual(events[0], ("took", me, at(9, 2), 0, HIT, HIT))
        self.assertEqual(events[1:], (("sent", me, me, ("hi", ())), ("sent", me, me, ("hi", ())), ("went", me, REST)))
        self.assertEqual(told_of(house, 3)[1], (0, ((me, 0, ("hi", ())),) * 2))
        self.assertEqual(outs, ())

    def test_kinds_names_and_what_is_handed_in(self):
        library, house = doer("tell x", "name boss @", "trap 1"), house_of({2: doing()})
        told = acted(by="tree", number=2, house=house, library=library)
        self.assertEqual(told, acted(library, house, 2))
        self.assertEqual(kinds_of(told), {tuple, str, int, bool, type(None)})
        self.assertEqual(house, house_of({2: doing()}))
        with self.assertRaises(TypeError):
            acted(library, house, 2, "tree")


class Editions(Act):
    """Letters of other editions, and where one goes."""

    def library(self):
        first = read_code("be count n\narm add k : 1\ngo count + n k")
        second = read_code("be count n\narm add k : 1\ntell k\ngo count + n k\nbe tally n\narm add k : 1\ngo tally k")
        tables = (
            ((), ()),
            ((), ((("add", 1), ("add", (("plus", ("of", "a"), ("is", 100)),))),)),
            ((("count", ("tally", (("of", "n"),))),), ()),
        )
        return tuple(zip((first, second, second), tables))

    def mail(self, k, edition, sender=at(1)):
        return (sender, edition, ("add", (k,)))

    def test_an_elder_letter_is_taken_as_it_reads(self):
        one = life(("count", (3,), 1), mails=(self.mail(4, 0),))
        _, events, _ = self.act(self.library(), {2: one}, loaded=(0, 1))
        self.assertEqual(events, (
            ("took", HERE, at(1), 0, ("add", (4,)), ("add", (104,))), ("told", HERE, 104), ("went", HERE, ("count", (107,), 1))))

    def test_a_later_letter_waits(self):
        one = life(("count", (3,), 0), mails=(self.mail(4, 1), self.mail(5, 0), self.mail(6, 1)))
        house, events, _ = self.act(self.library(), {2: one}, loaded=(0, 1))
        self.assertEqual(events[0], ("took", HERE, at(1), 0, ("add", (5,)), ("add", (5,))))
        self.assertEqual(told_of(house, 2)[1], (0, (self.mail(4, 1), self.mail(6, 1))))

    def test_who_goes_is_moved_by_what_is_loaded(self):
        for loaded, told in (((0,), ("count", (7,), 0)), ((0, 1), ("count", (7,), 0))):
            one = life(("count", (3,), 0), mails=(self.mail(4, 0),))
            house, events, _ = self.act(self.library(), {2: one}, loaded=loaded)
            self.assertEqual((events[-1], told_of(house, 2)), (("went", HERE, told), life(told, since=5)))
        for loaded, told in (((1,), ("count", (7,), 1)), ((0, 1), ("count", (7,), 1)), ((1, 2), ("tally", (7,), 2))):
            one = life(("count", (3,), 1), mails=(self.mail(4, 1),))
            house, events, _ = self.act(self.library(), {2: one}, loaded=loaded)
            self.assertEqual((events[-1], told_of(house, 2)), (("went", HERE, told), life(told, since=5)))

    def test_who_is_made_stays_in_the_edition(self):
        text = "be count\narm add : 1\nmake k count free\nsend k add\ngo count"
        table = ((("count", ("count", ())),), ())
        library = ((read_code(text), VOID), (read_code(text), table))
        one = life(("count", (), 0), mails=((at(1), 0, ("add", ())),))
        house, events, _ = self.act(library, {2: one}, loaded=(0, 1))
        self.assertEqual(events[1:], (
            ("made", at(20), HERE, ("count", (), 0)), ("sent", HERE, at(20), ("add", ())), ("went", HERE, ("count", (), 1))))
        # What is sent bears the edition of who takes, not the one that it goes to.
        self.assertEqual(told_of(house, 20), life(("count", (), 0), mails=((HERE, 0, ("add", ())),), since=5))

    def unseen(self, sender, folk=(), mails=()):
        one = life(("tally", (3,), 2), mails=(self.mail(4, 1, sender), *mails), since=5)
        return self.act(self.library(), {2: one, **dict(folk)}, loaded=(1, 2))

    def test_an_unseen_one_is_lost_and_its_sender_told(self):
        house, events, outs = self.unseen(at(6), {6: life(REST, mails=(big(1),))})
        self.assertEqual((events, outs), ((("lost", HERE, at(6), ("add", (4,)), "unseen"),), ()))
        self.assertEqual(told_of(house, 2), life(("tally", (3,), 2), since=5))
        self.assertEqual(told_of(house, 6)[1], (0, (big(1), (None, None, ("unseen", (HERE, "add"))))))

    def test_its_sender_lives_no_more(self):
        _, events, outs = self.unseen(at(6))
        self.assertEqual(events, (
            ("lost", HERE, at(6), ("add", (4,)), "unseen"), ("lost", at(6), None, ("unseen", (HERE, "add")), "gone")))
        self.assertEqual(outs, ())

    def test_its_sender_is_a_keeper(self):
        _, events, _ = self.unseen(at(6), {6: life(keeper(None))})
        self.assertEqual(events[1], ("lost", at(6), None, ("unseen", (HERE, "add")), "keeper"))

    def test_its_sender_is_of_another_house(self):
        for sender in (AWAY, at(2, 7)):
            _, events, outs = self.unseen(sender)
            self.assertEqual(events, (("lost", HERE, sender, ("add", (4,)), "unseen"),))
            self.assertEqual(outs, ((HERE, sender, ("letter", None, ("unseen", (HERE, "add")))),))

    def test_its_sender_is_the_one_who_looks(self):
        house, events, _ = self.unseen(HERE)
        self.assertEqual(events, (("lost", HERE, HERE, ("add", (4,)), "unseen"),))
        self.assertEqual(told_of(house, 2), life(("tally", (3,), 2), mails=((None, None, ("unseen", (HERE, "add"))),), since=5))
        self.assertEqual(ready(self.library(), house), (2,))

    def test_unseen_ones_ahead_of_what_is_found(self):
        house, events, outs = self.unseen(AWAY, mails=(self.mail(1, 0), self.mail(5, 2), self.mail(9, 1)))
        self.assertEqual(events, (
            ("lost", HERE, AWAY, ("add", (4,)), "unseen"), ("lost", HERE, at(1), ("add", (1,)), "unseen"),
            ("lost", at(1), None, ("unseen", (HERE, "add")), "gone"),
            ("took", HERE, at(1), 2, ("add", (5,)), ("add", (5,))), ("went", HERE, ("tally", (5,), 2))))
        self.assertEqual(outs, ((HERE, AWAY, ("letter", None, ("unseen", (HERE, "add")))),))
        # The one behind what is found wasn't looked at.
        self.assertEqual(told_of(house, 2)[1], (0, (self.mail(9, 1),)))

    def test_unseen_ones_ahead_of_one_that_stays(self):
        # By the tree its mark is 0 behind it, by rows it is behind the one that stays.
        other = (at(1), 2, ("none", ()))
        house, events, _ = self.unseen(AWAY, mails=(other,))
        self.assertEqual(events, (("lost", HERE, AWAY, ("add", (4,)), "unseen"),))
        self.assertEqual(told_of(house, 2)[1], (1, (other,)))
        house, _, _ = acted(self.library(), house_of({2: life(("tally", (3,), 2), mails=(self.mail(4, 1), other))}, loaded=(1, 2)), 2, by="tree")
        self.assertEqual(told_of(house, 2)[1], (0, (other,)))

    def test_unseen_ones_ahead_of_being_late(self):
        late = read_code("be tally n\nlate 1\nsend @1.4 hi\ngo tally n")
        library = (*self.library()[:2], (late, VOID))
        one = life(("tally", (3,), 2), mails=(self.mail(4, 1, AWAY),))
        _, events, outs = self.act(library, {2: one}, loaded=(1, 2))
        self.assertEqual(events, (
            ("lost", HERE, AWAY, ("add", (4,)), "unseen"), ("late", HERE), ("sent", HERE, AWAY, ("hi", ())), ("went", HERE, ("tally", (3,), 2))))
        self.assertEqual(outs, ((HERE, AWAY, ("letter", None, ("unseen", (HERE, "add")))), (HERE, AWAY, ("letter", 2, ("hi", ())))))


class Sending(Act):
    """Point 33: letters given."""

    def test_to_one_who_lives(self):
        house, events, outs = self.do("send @0.3 hi n 'red @", folk={3: life(REST, mails=(big(1),), mark=1)})
        letter = ("hi", (3, "red", HERE))
        self.assertEqual((events, outs), ((("sent", HERE, NEXT, letter), WENT), ()))
        self.assertEqual(told_of(house, 3), life(REST, mails=(big(1), (HERE, 0, letter)), mark=1))

    def test_to_one_who_does_not_live(self):
        for to in (3, 19, 20, 10 ** 9):
            _, events, outs = self.do(f"send @0.{to} hi")
            self.assertEqual((events, outs), ((("sent", HERE, at(to), ("hi", ())), ("lost", at(to), HERE, ("hi", ()), "gone"), WENT), ()))

    def test_to_one_who_is_made_behind_it(self):
        _, events, _ = self.do("send @0.20 hi", "make k rest free", "send k hi", "send @0.20 hi")
        letter = ("hi", ())
        self.assertEqual(events[:-1], (
            ("sent", HERE, at(20), letter), ("lost", at(20), HERE, letter, "gone"), ("made", at(20), HERE, REST),
            ("sent", HERE, at(20), letter), ("sent", HERE, at(20), letter)))

    def test_to_a_keeper(self):
        house, events, _ = self.do("send @0.3 hi", folk={3: life(keeper(None))})
        self.assertEqual(events, (("sent", HERE, NEXT, ("hi", ())), ("lost", NEXT, HERE, ("hi", ()), "keeper"), WENT))
        self.assertEqual(told_of(house, 3), life(keeper(None)))

    def test_to_another_house(self):
        for to in (AWAY, at(2, 1), at(0, 99)):
            _, events, outs = self.do(f"send @{to[1]}.{to[2]} hi x")
            self.assertEqual(events, (("sent", HERE, to, HIT_AS_HI), WENT))
            self.assertEqual(outs, ((HERE, to, ("letter", 0, HIT_AS_HI)),))

    def test_to_itself(self):
        house, events, _ = self.do("send @ hi", "send @ hit 1")
        self.assertEqual(told_of(house, 2)[1], (0, ((HERE, 0, ("hi", ())), (HERE, 0, ("hit", (1,))))))
        self.assertEqual(len(events), 3)

    def test_to_itself_and_ending(self):
        _, events, _ = self.do("send @ hi", last="end 'done", folk={})
        self.assertEqual(events, (("sent", HERE, HERE, ("hi", ())), ("ended", HERE, "done", None), ("lost", HERE, HERE, ("hi", ()), "ended")))

    def test_to_no_address(self):
        _, events, outs = self.do("send 3 hi", "send 'red hi", "send none hi")
        self.assertEqual((events, outs), ((WENT,), ()))


HIT_AS_HI = ("hi", (7,))


class Deeds(Act):
    def test_tell_and_ask(self):
        words = (("boss", at(9)), ("boss", at(3, 1)), ("red", at(3, 1)))
        house, events, outs = self.do("ask k boss", "tell k", "ask k red", "tell k", "ask k none", "tell k", "tell 'blue", words=words)
        self.assertEqual(events, (
            ("asked", HERE, "boss", at(9)), ("told", HERE, at(9)), ("asked", HERE, "red", at(3, 1)), ("told", HERE, at(3, 1)),
            ("asked", HERE, "none", 0), ("told", HERE, 0), ("told", HERE, "blue"), WENT))
        self.assertEqual((house[5], outs), (words, ()))

    def test_trap(self):
        for worth, traps in (("1", True), ("7", True), ("0", False), ("-1", False), ("'red", False), ("@", False)):
            for before in (True, False):
                house, events, outs = self.act(doer(f"trap {worth}"), {2: doing(traps=before)})
                self.assertEqual((events, outs), ((TOOK, WENT), ()))
                self.assertIs(told_of(house, 2)[5], traps)

    def test_make(self):
        house, events, outs = self.do("make k rest free", "make k work free n", clock=8)
        self.assertEqual(events, (("made", at(20), HERE, REST), ("made", at(21), HERE, ("work", (3,), 0)), WENT))
        self.assertEqual((house[2], outs), (22, ()))
        self.assertEqual(told_of(house, 20), life(REST, since=8))
        self.assertEqual(told_of(house, 21), life(("work", (3,), 0), since=8))
        self.assertEqual(told_of(house, 2), life(("it", (3,), 0), since=8))

    def test_make_linked(self):
        house, _, _ = self.do("make k rest linked", "make k rest linked", folk={2: doing(has=(at(30),), watches=(at(30),))})
        self.assertEqual(told_of(house, 2), life(("it", (3,), 0), since=5, has=(at(20), at(21), at(30)), watches=(at(30),)))
        for n in (20, 21):
            self.assertEqual(told_of(house, n), life(REST, since=5, has=(HERE,)))

    def test_make_watched(self):
        house, _, _ = self.do("make k rest watched", folk={2: doing(has=(at(30),), watches=(at(1, 1),))})
        self.assertEqual(told_of(house, 2), life(("it", (3,), 0), since=5, has=(at(30),), watches=(at(20), at(1, 1))))
        self.assertEqual(told_of(house, 20), life(REST, since=5, known=(HERE,)))

    def test_link_in_one_house(self):
        house, events, outs = self.do("link @0.3", "link @0.1", "link @0.3", folk={1: life(REST, has=(at(9), AWAY)), 3: life(REST)})
        self.assertEqual((events, outs), ((WENT,), ()))
        self.assertEqual(told_of(house, 2)[2], (at(1), NEXT))
        self.assertEqual(told_of(house, 1), life(REST, has=(HERE, at(9), AWAY)))
        self.assertEqual(told_of(house, 3), life(REST, has=(HERE,)))

    def test_link_to_another_house(self):
        house, events, outs = self.do("link @1.4", "link @1.4", "link @7.0")
        self.assertEqual((events, outs), ((WENT,), ((HERE, AWAY, ("link",)), (HERE, AWAY, ("link",)), (HERE, at(0, 7), ("link",)))))
        self.assertEqual(told_of(house, 2)[2], (AWAY, at(0, 7)))

    def test_link_to_a_keeper(self):
        house, _, _ = self.do("link @0.3", folk={3: life(keeper(None))})
        self.assertEqual(told_of(house, 3), life(keeper(None), has=(HERE,)))

    def test_link_and_watch_of_oneself_and_of_no_address(self):
        for word in ("link", "watch", "unlink"):
            house, events, outs = self.do(*[f"{word} {amount}" for amount in ("@", "@0.2", "3", "'red", "none")])
            self.assertEqual((events, outs), ((WENT,), ()))
            self.assertEqual(told_of(house, 2), life(("it", (3,), 0), since=5))

    def test_watch(self):
        house, events, outs = self.do("watch @0.3", "watch @1.4", folk={3: life(REST, known=(at(1),))})
        self.assertEqual((events, outs), ((WENT,), ((HERE, AWAY, ("watch",)),)))
        self.assertEqual(told_of(house, 2), life(("it", (3,), 0), since=5, watches=(NEXT, AWAY)))
        self.assertEqual(told_of(house, 3), life(REST, known=(at(1), HERE)))

    def test_unlink_in_one_house(self):
        folk = {2: doing(has=(at(1), NEXT)), 1: life(REST, has=(HERE, NEXT)), 3: life(REST, has=(at(1), HERE), known=(HERE,))}
        house, events, outs = self.do("unlink @0.3", folk=folk)
        self.assertEqual((events, outs), ((WENT,), ()))
        self.assertEqual(told_of(house, 2)[2], (at(1),))
        self.assertEqual(told_of(house, 1), folk[1])
        self.assertEqual(told_of(house, 3), life(REST, has=(at(1),), known=(HERE,)))

    def test_unlink_of_one_that_it_has_alone_and_of_who_does_not_live(self):
        folk = {2: doing(has=(NEXT, at(8))), 3: life(REST), 1: life(REST, has=(HERE,))}
        house, events, outs = self.do("unlink @0.3", "unlink @0.8", "unlink @0.1", folk=folk)
        self.assertEqual((events, outs), ((WENT,), ()))
        self.assertEqual([told_of(house, n)[2] for n in (1, 2, 3)], [(), (), ()])

    def test_unlink_to_another_house(self):
        house, events, outs = self.do("unlink @1.4", "unlink @1.5", folk={2: doing(has=(AWAY,))})
        self.assertEqual((events, outs), ((WENT,), ((HERE, AWAY, ("unlink",)), (HERE, at(5, 1), ("unlink",)))))
        self.assertEqual(told_of(house, 2)[2], ())

    def test_unlink_between_a_keeper_and_its_child_is_nothing(self):
        folk = {2: doing(has=(at(1), NEXT)), 1: life(keeper(2, None), has=(HERE,)), 3: life(keeper(None), has=(HERE,))}
        house, events, outs = self.do("unlink @0.1", "unlink @0.3", folk=folk)
        self.assertEqual((events, outs), ((WENT,), ()))
        self.assertEqual(told_of(house, 2)[2], (at(1),))
        self.assertEqual(told_of(house, 1)[2], (HERE,))
        # That one keeps others, so they are linked as any are.
        self.assertEqual(told_of(house, 3)[2], ())

    def test_unlink_of_one_of_another_house_with_its_keepers_number(self):
        folk = {2: doing(has=(at(1), at(1, 1))), 1: life(keeper(2), has=(HERE,))}
        house, events, outs = self.do("unlink @1.1", folk=folk)
        self.assertEqual((events, outs), ((WENT,), ((HERE, at(1, 1), ("unlink",)),)))
        self.assertEqual((told_of(house, 2)[2], told_of(house, 1)[2]), ((at(1),), (HERE,)))

    def test_name(self):
        house, events, outs = self.do("name boss @", "name boss @0.3", "name red @0.3", folk={3: life(REST)}, words=(("boss", AWAY),))
        self.assertEqual(events, (("named", HERE, "boss", HERE), ("named", HERE, "boss", NEXT), ("named", HERE, "red", NEXT), WENT))
        self.assertEqual(house[5], (("boss", HERE), ("boss", NEXT), ("boss", AWAY), ("red", NEXT)))
        self.assertEqual(outs, tuple([(None, None, ("word", word, address, True)) for word, address in (("boss", HERE), ("boss", NEXT), ("red", NEXT))]))

    def test_name_that_does_nothing(self):
        house, events, outs = self.do("name boss @", "name boss @0.8", "name boss @1.4", "name boss 3", words=(("boss", HERE),))
        self.assertEqual((events, outs, house[5]), ((WENT,), (), (("boss", HERE),)))

    def test_name_of_one_just_made_and_asked(self):
        house, events, _ = self.do("make k rest free", "name boss k", "ask j boss", "send j hi")
        self.assertEqual(events, (
            ("made", at(20), HERE, REST), ("named", HERE, "boss", at(20)), ("asked", HERE, "boss", at(20)), ("sent", HERE, at(20), ("hi", ())), WENT))
        self.assertEqual(told_of(house, 20)[1], (0, ((HERE, 0, ("hi", ())),)))

    def test_all_in_their_order(self):
        lines = ("send @1.4 hi", "link @1.5", "name boss @", "watch @1.6", "unlink @1.7", "tell 1", "send @1.4 hi")
        _, events, outs = self.do(*lines)
        self.assertEqual([event[0] for event in events], ["sent", "named", "told", "sent", "went"])
        self.assertEqual(outs, (
            (HERE, AWAY, ("letter", 0, ("hi", ()))), (HERE, at(5, 1), ("link",)), (None, None, ("word", "boss", HERE, True)),
            (HERE, at(6, 1), ("watch",)), (HERE, at(7, 1), ("unlink",)), (HERE, AWAY, ("letter", 0, ("hi", ())))))


class Gone(Act):
    """Links to and watches of those who don't live: what is heard behind the next."""

    def test_a_signal_ends_it(self):
        house, events, outs = self.do("link @0.8", "tell 1")
        self.assertEqual((events, outs), ((("told", HERE, 1), WENT, ("ended", HERE, "gone", at(8))), ()))
        self.assertEqual(told_of(house, 2), None)

    def test_who_traps_is_told(self):
        house, events, _ = self.do("link @0.8", "trap 1")
        self.assertEqual(events, (WENT,))
        self.assertEqual(told_of(house, 2), life(("it", (3,), 0), since=5, traps=True, mails=((None, None, ("exit", (at(8), "gone"))),)))

    def test_a_down(self):
        house, events, _ = self.do("watch @0.8")
        self.assertEqual(events, (WENT,))
        self.assertEqual(told_of(house, 2), life(("it", (3,), 0), since=5, mails=((None, None, ("down", (at(8), "gone"))),)))

    def test_deed_by_deed(self):
        house, events, _ = self.do("watch @0.9", "link @0.8", "trap 1", "watch @0.8", "link @0.7")
        mails = tuple([(None, None, (tag, (at(n), "gone"))) for tag, n in (("down", 9), ("exit", 8), ("down", 8), ("exit", 7))])
        self.assertEqual(told_of(house, 2), life(("it", (3,), 0), since=5, traps=True, mails=mails))
        # The first signal ends it: what comes behind is heard by nobody.
        house, events, _ = self.do("watch @0.9", "link @0.8", "watch @0.7")
        self.assertEqual(events, (
            WENT, ("ended", HERE, "gone", at(8)), ("lost", HERE, None, ("down", (at(9), "gone")), "ended")))

    def test_twice_is_heard_once(self):
        house, _, _ = self.do("link @0.8", "link @0.8", "trap 1", "watch @0.8", "watch @0.8")
        self.assertEqual(told_of(house, 2)[1][1], ((None, None, ("exit", (at(8), "gone"))), (None, None, ("down", (at(8), "gone")))))

    def test_unlinked_meanwhile(self):
        house, events, _ = self.do("link @0.8", "unlink @0.8")
        self.assertEqual(events, (WENT,))
        self.assertEqual(told_of(house, 2), life(("it", (3,), 0), since=5))

    def test_one_that_it_has_had(self):
        # It has one that lives no more, and hears of it by linking.
        house, events, _ = self.do("link @0.8", folk={2: doing(has=(at(8),))})
        self.assertEqual(events, (WENT, ("ended", HERE, "gone", at(8))))

    def test_made_behind_it(self):
        house, events, _ = self.do("link @0.20", "make k rest linked", "trap 1", "watch @0.21", "make k rest watched")
        self.assertEqual(events, (("made", at(20), HERE, REST), ("made", at(21), HERE, REST), WENT))
        self.assertEqual(told_of(house, 2), life(("it", (3,), 0), since=5, traps=True, mails=(
            (None, None, ("exit", (at(20), "gone"))), (None, None, ("down", (at(21), "gone"))))))
        self.assertEqual(told_of(house, 20), life(REST, since=5, has=(HERE,)))
        self.assertEqual(told_of(house, 21), life(REST, since=5, known=(HERE,)))

    def test_ending_ahead_of_it(self):
        _, events, outs = self.do("link @0.8", "watch @0.9", last="end 'worse")
        self.assertEqual((events, outs), ((("ended", HERE, "worse", None),), ()))

    def test_the_end_brings_its_own(self):
        """The signal by gone ends it, and that ends others, ahead of the next deed."""
        folk = {2: doing(has=(NEXT,)), 3: life(REST, has=(HERE, at(4))), 4: life(REST, has=(NEXT,), traps=True)}
        house, events, _ = self.do("link @0.8", folk=folk)
        self.assertEqual(events, (WENT, ("ended", HERE, "gone", at(8)), ("ended", NEXT, "gone", HERE)))
        self.assertEqual(told_of(house, 4), life(REST, traps=True, mails=((None, None, ("exit", (NEXT, "gone"))),)))


if __name__ == "__main__":
    unittest.main()
