"""Points 5, 33, 35, 37, 46 and 47: who begins, who ends, and all that comes of it in the house."""

import unittest

from founding import ANY, LIBRARY, Founder, at, caught, life
from housing import REST, house_of, keeper
from letterfolk.answers import answer, falling
from letterfolk.ends import ended, rooted
from letterfolk.errors import FolkError, NoFolk, RunError
from letterfolk.houses import void_house
from making import TOP, kinds_of

AWAY = at(4, 1)
ADD = (at(9), 0, ("add", (1,)))
ODD = ("rest", (), 1)


def left(n, reason, whose=None):
    """The event of an end."""
    return ("ended", at(n), reason, whose)


def exit_of(n, reason):
    return (None, None, ("exit", (at(n), reason)))


def down_of(n, reason):
    return (None, None, ("down", (at(n), reason)))


def made(n, by=None, what=REST):
    return ("made", at(n), None if by is None else at(by), what)


class Ends(unittest.TestCase):
    def end(self, folk, n=0, reason="odd", **more):
        """(lives, events, outs) behind an end, the lives a dict."""
        named = {name: more.pop(name) for name in ("whose",) if name in more}
        before = house_of(folk, **more)
        house, events, outs = ended(before, n, reason, **named)
        self.assertEqual((house[0], house[1], house[3]), (before[0], before[1], before[3]))
        self.house = house
        return dict(house[4]), events, outs


class OneEnds(Ends):
    def test_alone(self):
        self.assertEqual(self.end({0: life(REST), 3: life(REST)}), ({3: life(REST)}, (left(0, "odd"),), ()))

    def test_whose(self):
        for whose in (None, at(7), AWAY):
            self.assertEqual(self.end({0: life(REST)}, reason="done", whose=whose)[1], (("ended", at(0), "done", whose),))

    def test_nobody(self):
        house = house_of({0: life(REST), 1: life(REST)})
        for number in (2, 19, -1, TOP, True, False, None, "0", [1], [], (0,), at(0), REST, *ANY):
            self.assertIs(caught(self, NoFolk, ended, house, number, "odd").address, number)
        for family in (RunError, FolkError, ValueError):
            with self.assertRaises(family):
                ended(house, 2, "odd", whose=at(0))

    def test_its_words_go(self):
        words = (("blue", at(0)), ("boss", at(0)), ("boss", at(3)), ("boss", AWAY), ("red", at(0)), ("red", at(0, 1)))
        _, events, outs = self.end({0: life(REST), 3: life(REST)}, words=words)
        self.assertEqual(events, (left(0, "odd"), *[("unnamed", at(0), word) for word in ("blue", "boss", "red")]))
        self.assertEqual(outs, tuple([(None, None, ("word", word, at(0), False)) for word in ("blue", "boss", "red")]))
        self.assertEqual(self.house[5], (("boss", at(3)), ("boss", AWAY), ("red", at(0, 1))))

    def test_its_letters_are_lost(self):
        mails = (ADD, exit_of(8, "done"), (AWAY, 3, ("hit", ())), ADD)
        _, events, _ = self.end({0: life(REST, mails=mails, mark=2)})
        self.assertEqual(events[1:], tuple([("lost", at(0), sender, letter, "ended") for sender, _, letter in mails]))

    def test_the_order_of_all(self):
        folk = {
            0: life(REST, mails=(ADD,), has=(at(1), at(3), AWAY), known=(at(2), AWAY)), 1: life(REST, has=(at(0),), mails=(ADD,)),
            2: life(REST, watches=(at(0),)), 3: life(REST, has=(at(0),), traps=True),
        }
        lives, events, outs = self.end(folk, words=(("boss", at(0)), ("red", at(1))))
        self.assertEqual(events, (
            left(0, "odd"), ("unnamed", at(0), "boss"), ("lost", at(0), at(9), ("add", (1,)), "ended"),
            left(1, "odd", at(0)), ("unnamed", at(1), "red"), ("lost", at(1), at(9), ("add", (1,)), "ended")))
        self.assertEqual(outs, (
            (None, None, ("word", "boss", at(0), False)), (None, None, ("word", "red", at(1), False)),
            (at(0), AWAY, ("signal", "odd")), (at(0), AWAY, ("down", "odd"))))
        self.assertEqual(lives, {2: life(REST, mails=(down_of(0, "odd"),)), 3: life(REST, traps=True, mails=(exit_of(0, "odd"),))})

    def test_signals_rise_then_downs(self):
        others = (at(1), at(3), at(0, 1), at(3, 1), at(0, 2))
        _, _, outs = self.end({0: life(REST, has=others[2:], known=others[2:])}, reason="done")
        signals = [(at(0), to, ("signal", "done")) for to in others[2:]]
        self.assertEqual(outs, (*signals, *[(at(0), to, ("down", "done")) for to in others[2:]]))

    def test_in_another_house(self):
        folk = {0: life(REST, has=(at(0), at(1, 1))), 1: life(REST, has=(at(0, 1),))}
        _, events, outs = self.end(folk, h=1)
        self.assertEqual(events, (("ended", at(0, 1), "odd", None), ("ended", at(1, 1), "odd", at(0, 1))))
        self.assertEqual(outs, ((at(0, 1), at(0), ("signal", "odd")),))

    def test_kinds_names_and_what_is_handed_in(self):
        house = house_of({0: life(REST, has=(at(1),), mails=(ADD,)), 1: life(REST, has=(at(0),))}, words=(("boss", at(0)),))
        kept = house_of({0: life(REST, has=(at(1),), mails=(ADD,)), 1: life(REST, has=(at(0),))}, words=(("boss", at(0)),))
        told = ended(whose=at(5), reason="odd", number=0, house=house)
        self.assertEqual(told, ended(house, 0, "odd", whose=at(5)))
        self.assertEqual(kinds_of(told), {tuple, str, int, bool, type(None)})
        self.assertEqual(house, kept)
        with self.assertRaises(TypeError):
            ended(house, 0, "odd", at(5))


class Signals(Ends):
    def test_by_done_nothing(self):
        lives, events, _ = self.end({0: life(REST, has=(at(1),)), 1: life(REST, has=(at(0), at(7)))}, reason="done")
        self.assertEqual((lives, events), ({1: life(REST, has=(at(7),))}, (left(0, "done"),)))

    def test_by_another_reason_it_ends(self):
        for reason in ("odd", "gone", "parted", "shut", "x"):
            lives, events, _ = self.end({0: life(REST, has=(at(1),)), 1: life(REST, has=(at(0),))}, reason=reason)
            self.assertEqual((lives, events), ({}, (left(0, reason), left(1, reason, at(0)))))

    def test_who_traps_is_given_an_exit(self):
        for reason in ("done", "odd"):
            folk = {0: life(REST, has=(at(1),)), 1: life(REST, has=(at(0),), traps=True, mails=(ADD,), mark=1)}
            lives, events, _ = self.end(folk, reason=reason)
            self.assertEqual(lives, {1: life(REST, traps=True, mails=(ADD, exit_of(0, reason)), mark=1)})
            self.assertEqual(events, (left(0, reason),))

    def test_who_has_it_not_hears_nothing(self):
        lives, events, _ = self.end({0: life(REST, has=(at(1), at(2))), 1: life(REST, has=(at(2),)), 2: life(REST, has=(at(1),))})
        self.assertEqual(lives, {1: life(REST, has=(at(2),)), 2: life(REST, has=(at(1),))})
        self.assertEqual(events, (left(0, "odd"),))

    def test_who_has_it_and_is_not_had_hears_nothing(self):
        lives, _, _ = self.end({0: life(REST), 1: life(REST, has=(at(0),))})
        self.assertEqual(lives, {1: life(REST, has=(at(0),))})

    def test_each_end_whole_ahead_of_the_next_signal(self):
        folk = {
            0: life(REST, has=(at(1), at(2))), 1: life(REST, has=(at(0), at(3))), 2: life(REST, has=(at(0),)),
            3: life(REST, has=(at(1), at(4))), 4: life(REST, has=(at(3),)),
        }
        self.assertEqual(self.end(folk)[1], (left(0, "odd"), left(1, "odd", at(0)), left(3, "odd", at(1)), left(4, "odd", at(3)), left(2, "odd", at(0))))

    def test_signals_ahead_of_downs_with_all_that_comes_of_them(self):
        folk = {
            0: life(REST, has=(at(5),), known=(at(1),)), 5: life(REST, has=(at(0),), known=(at(1),)), 1: life(REST, watches=(at(0), at(5))),
        }
        lives, events, _ = self.end(folk)
        self.assertEqual(events, (left(0, "odd"), left(5, "odd", at(0))))
        self.assertEqual(lives, {1: life(REST, mails=(down_of(5, "odd"), down_of(0, "odd")))})

    def test_a_ring(self):
        for many in (2, 3, 5):
            folk = {n: life(REST, has=tuple(sorted({at((n - 1) % many), at((n + 1) % many)}))) for n in range(many)}
            lives, events, outs = self.end(folk)
            self.assertEqual((lives, events[0], outs), ({}, left(0, "odd"), ()))
            self.assertEqual(events[1:], tuple([left(n, "odd", at(n - 1)) for n in range(1, many)]))

    def test_a_long_chain(self):
        many = 700
        folk = {n: life(REST, has=tuple([at(k) for k in (n - 1, n + 1) if 0 <= k < many])) for n in range(many)}
        lives, events, _ = self.end(folk, made=many)
        self.assertEqual((lives, len(events)), ({}, many))
        self.assertEqual(events[-1], left(many - 1, "odd", at(many - 2)))

    def test_a_ring_where_one_traps(self):
        folk = {0: life(REST, has=(at(1), at(2))), 1: life(REST, has=(at(0), at(2)), traps=True), 2: life(REST, has=(at(0), at(1)))}
        lives, events, _ = self.end(folk)
        self.assertEqual(events, (left(0, "odd"), left(2, "odd", at(0))))
        self.assertEqual(lives, {1: life(REST, traps=True, mails=(exit_of(0, "odd"), exit_of(2, "odd")))})


class Downs(Ends):
    def test_heard_where_it_watches(self):
        folk = {0: life(REST, known=(at(1), at(2), at(3))), 1: life(REST, watches=(at(0), AWAY), mails=(ADD,)), 2: life(REST)}
        for reason in ("done", "odd"):
            lives, events, outs = self.end(folk, reason=reason)
            self.assertEqual((events, outs), ((left(0, reason),), ()))
            self.assertEqual(lives, {1: life(REST, watches=(AWAY,), mails=(ADD, down_of(0, reason))), 2: life(REST)})

    def test_who_watches_and_is_not_known_hears_nothing(self):
        folk = {0: life(REST), 1: life(REST, watches=(at(0),))}
        self.assertEqual(self.end(folk)[0], {1: folk[1]})

    def test_who_ends_stays_in_the_known_of_whom_it_watched(self):
        folk = {0: life(REST, watches=(at(1),)), 1: life(REST, known=(at(0),))}
        lives, _, _ = self.end(folk)
        self.assertEqual(lives, {1: folk[1]})
        lives, events, _ = self.end(lives, n=1)
        self.assertEqual((lives, events), ({}, (left(1, "odd"),)))

    def test_who_ends_by_the_signal_hears_no_down(self):
        folk = {0: life(REST, has=(at(1),), known=(at(1),)), 1: life(REST, has=(at(0),), watches=(at(0),))}
        self.assertEqual(self.end(folk)[1], (left(0, "odd"), left(1, "odd", at(0))))


def family(way="one", most=3, past=(), rows=None, more=(), **lives):
    """A keeper 0 of children 1, 2, 3, and others as handed in."""
    folk = {0: life(keeper(1, 2, 3, way=way, most=most, past=past, rows=rows), has=(at(1), at(2), at(3), *more))}
    folk.update({n: life(REST, has=(at(0),)) for n in (1, 2, 3)})
    folk.update({int(name[1:]): told for name, told in lives.items()})
    return folk


class Keepers(Ends):
    def value(self, lives, n=0):
        return lives[n][0]

    def test_a_child_that_is_done(self):
        lives, events, _ = self.end(family(), n=2, reason="done")
        self.assertEqual(events, (left(2, "done"),))
        self.assertEqual(lives[0], life(keeper(1, None, 3), has=(at(1), at(3))))

    def test_one_begins_anew(self):
        lives, events, _ = self.end(family(), n=2)
        self.assertEqual(events, (left(2, "odd"), ("anew", at(0), 1, at(20)), made(20, 0)))
        self.assertEqual(lives[0], life(keeper(1, 20, 3, past=(5,)), has=(at(1), at(3), at(20))))
        self.assertEqual(lives[20], life(REST, has=(at(0),), since=5))
        self.assertEqual(self.house[2], 21)

    def test_all_begin_anew(self):
        lives, events, _ = self.end(family("all"), n=2)
        self.assertEqual(events, (
            left(2, "odd"), left(3, "shut", at(0)), left(1, "shut", at(0)), ("anew", at(0), 0, at(20)), made(20, 0),
            ("anew", at(0), 1, at(21)), made(21, 0), ("anew", at(0), 2, at(22)), made(22, 0)))
        self.assertEqual(lives[0], life(keeper(20, 21, 22, way="all", past=(5,)), has=(at(20), at(21), at(22))))

    def test_the_rest_begin_anew(self):
        lives, events, _ = self.end(family("rest"), n=2)
        self.assertEqual(events, (
            left(2, "odd"), left(3, "shut", at(0)), ("anew", at(0), 1, at(20)), made(20, 0), ("anew", at(0), 2, at(21)), made(21, 0)))
        self.assertEqual(self.value(lives), keeper(1, 20, 21, way="rest", past=(5,)))

    def test_by_old_it_begins_without_counting(self):
        lives, events, _ = self.end(family("all", most=0), n=2, reason="old")
        self.assertEqual(events, (left(2, "old"), ("anew", at(0), 1, at(20)), made(20, 0)))
        self.assertEqual(self.value(lives), keeper(1, 20, 3, way="all", most=0))

    def test_a_row_that_begins_nobody(self):
        for reason in ("odd", "old", "done"):
            lives, events, _ = self.end(family("all", rows=(REST, None, REST)), n=2, reason=reason)
            self.assertEqual((events, self.value(lives)), ((left(2, reason),), keeper(1, None, 3, way="all", rows=(REST, None, REST))))

    def test_falling_by_beyond(self):
        lives, events, _ = self.end(family(most=1, past=(4,), more=(at(7), AWAY), n7=life(REST, has=(at(0),))), n=2)
        self.assertEqual(events, (
            left(2, "odd"), left(3, "shut", at(0)), left(1, "shut", at(0)), left(0, "beyond", at(2)), left(7, "beyond", at(0))))
        self.assertEqual(lives, {})

    def test_a_tick_that_counts_no_more(self):
        lives, events, _ = self.end(family(most=1, past=(0,)), n=2)
        self.assertEqual(len(events), 3)
        self.assertEqual(self.value(lives)[6], (5,))

    def test_no_child_of_its(self):
        folk = family(more=(at(7),), n7=life(REST, has=(at(0),)))
        lives, events, _ = self.end(folk, n=7, reason="done")
        self.assertEqual((events, lives[0]), ((left(7, "done"),), family()[0]))
        _, events, _ = self.end(folk, n=7, reason="worse")
        self.assertEqual(events, (
            left(7, "worse"), left(3, "shut", at(0)), left(2, "shut", at(0)), left(1, "shut", at(0)), left(0, "worse", at(7))))

    def test_a_keeper_that_ends(self):
        lives, events, outs = self.end(family(more=(AWAY,)), n=0, reason="done", whose=AWAY, words=(("boss", at(0)),))
        self.assertEqual(events, (
            left(3, "shut", at(0)), left(2, "shut", at(0)), left(1, "shut", at(0)), left(0, "done", AWAY), ("unnamed", at(0), "boss")))
        self.assertEqual((lives, outs), ({}, ((None, None, ("word", "boss", at(0), False)), (at(0), AWAY, ("signal", "done")))))

    def test_shut_in_contrary_order_of_rows_not_of_numbers(self):
        folk = {0: life(keeper(9, 4, None, 6), has=(at(4), at(6), at(9))), **{n: life(REST, has=(at(0),)) for n in (4, 6, 9)}}
        self.assertEqual(self.end(folk)[1], (left(6, "shut", at(0)), left(4, "shut", at(0)), left(9, "shut", at(0)), left(0, "odd")))

    def test_shut_whether_it_traps_or_not(self):
        folk = family(n2=life(REST, has=(at(0),), traps=True))
        self.assertEqual(self.end(folk, n=0)[1], (left(3, "shut", at(0)), left(2, "shut", at(0)), left(1, "shut", at(0)), left(0, "odd")))

    def test_each_end_whole_ahead_of_the_next(self):
        # Who is linked to the last child ends ahead of the child before it.
        folk = family(n3=life(REST, has=(at(0), at(7))), n7=life(REST, has=(at(3), at(8))), n8=life(REST, has=(at(7),)))
        self.assertEqual(self.end(folk, n=0)[1], (
            left(3, "shut", at(0)), left(7, "shut", at(3)), left(8, "shut", at(7)), left(2, "shut", at(0)), left(1, "shut", at(0)), left(0, "odd")))

    def test_a_child_that_has_ended_meanwhile(self):
        folk = family("all", n3=life(REST, has=(at(0), at(1))), n1=life(REST, has=(at(0), at(3))))
        lives, events, _ = self.end(folk, n=2)
        # Child 1 ends by its link to child 3; the keeper has it no more and hears nothing of it.
        self.assertEqual(events[:3], (left(2, "odd"), left(3, "shut", at(0)), left(1, "shut", at(3))))
        self.assertEqual([event[0] for event in events[3:]], ["anew", "made"] * 3)
        self.assertEqual(self.value(lives)[6], (5,))

    def test_a_keeper_that_has_ended_amid_its_shutting(self):
        # Who is linked to child 3 is had by the keeper, which falls by it: its other ends are done all the same.
        more = {"n3": life(REST, has=(at(0), at(7))), "n7": life(REST, has=(at(0), at(3)))}
        _, events, _ = self.end(family(more=(at(7),), **more), n=0, reason="worse")
        self.assertEqual(events, (
            left(3, "shut", at(0)), left(7, "shut", at(3)), left(0, "shut", at(7)), left(2, "shut", at(0)), left(1, "shut", at(0))))
        # So, too, where it would begin others anew behind it: it begins none.
        lives, events, _ = self.end(family("all", more=(at(7),), **more), n=2)
        self.assertEqual(events, (
            left(2, "odd"), left(3, "shut", at(0)), left(7, "shut", at(3)), left(0, "shut", at(7)), left(1, "shut", at(0))))
        self.assertEqual((lives, self.house[2]), ({}, 20))

    def test_a_child_that_begins_anew_amid_a_shutting(self):
        # Child 0 hears of child 3 that is shut, ends, and begins anew ahead of the others.
        folk = {
            0: life(keeper(1, 2, 3, way="rest"), has=(at(1), at(2), at(3))), 1: life(REST, has=(at(0), at(3))), 2: life(REST, has=(at(0),)),
            3: life(REST, has=(at(0), at(1))),
        }
        lives, events, _ = self.end(folk, n=2)
        self.assertEqual(events, (
            left(2, "odd"), left(3, "shut", at(0)), left(1, "shut", at(3)), ("anew", at(0), 0, at(20)), made(20, 0),
            ("anew", at(0), 1, at(21)), made(21, 0), ("anew", at(0), 2, at(22)), made(22, 0)))
        self.assertEqual(self.value(lives), keeper(20, 21, 22, way="rest", past=(5, 5)))

    def test_the_rows_as_it_has_them_then(self):
        rows = (REST, ("plan", "all", 0, 1, (ODD, None, REST)), ODD)
        lives, events, _ = self.end(family("rest", rows=rows), n=2)
        child = ("keeper", "all", 0, 1, (ODD, None, REST), (at(21), None, at(22)), ())
        self.assertEqual(events[2:], (
            ("anew", at(0), 1, at(20)), made(20, 0, child), made(21, 20, ODD), made(22, 20), ("anew", at(0), 2, at(23)), made(23, 0, ODD)))
        self.assertEqual(lives[20], life(child, has=(at(0), at(21), at(22)), since=5))
        self.assertEqual(lives[21], life(ODD, has=(at(20),), since=5))

    def test_a_keeper_of_a_keeper(self):
        folk = {
            0: life(keeper(1, 4, way="one", most=0), has=(at(1), at(4))), 1: life(keeper(2, 3, way="all", most=0), has=(at(0), at(2), at(3))),
            2: life(REST, has=(at(1),)), 3: life(REST, has=(at(1),)), 4: life(REST, has=(at(0),)),
        }
        _, events, _ = self.end(folk, n=2)
        self.assertEqual(events, (
            left(2, "odd"), left(3, "shut", at(1)), left(1, "beyond", at(2)), left(4, "shut", at(0)), left(0, "beyond", at(1))))

    def test_a_keeper_that_is_shut_shuts_its_own(self):
        folk = {
            0: life(keeper(1, 4), has=(at(1), at(4))), 1: life(keeper(2, 3), has=(at(0), at(2), at(3))),
            2: life(REST, has=(at(1),)), 3: life(REST, has=(at(1),)), 4: life(REST, has=(at(0),)),
        }
        self.assertEqual(self.end(folk, n=0)[1], (
            left(4, "shut", at(0)), left(3, "shut", at(1)), left(2, "shut", at(1)), left(1, "shut", at(0)), left(0, "odd")))

    def test_a_keeper_that_is_known(self):
        lives, _, _ = self.end({**family(), 0: life(keeper(1, 2, 3), has=(at(1), at(2), at(3)), known=(at(7),)), 7: life(REST, watches=(at(0),))}, n=0)
        self.assertEqual(lives, {7: life(REST, mails=(down_of(0, "odd"),))})


class Roots(unittest.TestCase):
    def test_a_state(self):
        house, events, outs = rooted(house_of({}, clock=7, made=3, words=(("boss", AWAY),)), REST)
        self.assertEqual((events, outs), ((made(3),), ()))
        self.assertEqual(house, house_of({3: life(REST, since=7)}, clock=7, made=4, words=(("boss", AWAY),)))

    def test_beside_others(self):
        house, _, _ = rooted(house_of({0: life(REST, has=(at(8),))}, made=9), REST)
        self.assertEqual(dict(house[4]), {0: life(REST, has=(at(8),)), 9: life(REST, since=5)})

    def test_a_plan(self):
        house, events, outs = rooted(void_house(1, clock=2, made=4), ("plan", "rest", 2, 3, (REST, None, ODD)))
        value = ("keeper", "rest", 2, 3, (REST, None, ODD), (at(5, 1), None, at(6, 1)), ())
        self.assertEqual((events, outs), (
            (("made", at(4, 1), None, value), ("made", at(5, 1), at(4, 1), REST), ("made", at(6, 1), at(4, 1), ODD)), ()))
        self.assertEqual(dict(house[4]), {
            4: life(value, has=(at(5, 1), at(6, 1)), since=2), 5: life(REST, has=(at(4, 1),), since=2), 6: life(ODD, has=(at(4, 1),), since=2)})
        self.assertEqual(house[2], 7)

    def test_plans_within_one_another(self):
        inner = ("plan", "one", 0, 1, (REST,))
        house, events, _ = rooted(void_house(0), ("plan", "all", 1, 2, (inner, ("plan", "rest", 1, 1, ()), inner)))
        self.assertEqual([event[1:3] for event in events], [
            (at(0), None), (at(1), at(0)), (at(2), at(1)), (at(3), at(0)), (at(4), at(0)), (at(5), at(4))])
        lives = dict(house[4])
        self.assertEqual(lives[0][2], (at(1), at(3), at(4)))
        self.assertEqual(lives[4], life(("keeper", "one", 0, 1, (REST,), (at(5),), ()), has=(at(0), at(5))))
        self.assertEqual(lives[3], life(("keeper", "rest", 1, 1, (), (), ()), has=(at(0),)))

    def test_kinds_and_names(self):
        told = rooted(root=REST, house=void_house(0))
        self.assertEqual(told, rooted(void_house(0), REST))
        self.assertEqual(kinds_of(told), {tuple, str, int, bool, type(None)})


class Teller:
    """The ends of a house told plainly, by calls within one another, as the document tells them."""

    def __init__(self, house):
        self.h, self.clock, self.made, self.loaded, folk, words = house
        self.folk = {n: list(told) for n, told in folk}
        self.words = set(words)
        self.events, self.outs = [], []

    def lives(self, address):
        return address[1] == self.h and address[2] in self.folk

    def give(self, to, letter):
        told = self.folk[to[2]]
        told[1] = (told[1][0], (*told[1][1], (None, None, letter)))

    def end(self, b, reason, whose):
        told = self.folk[b[2]]
        if len(told[0]) == 7:
            self.answered(b, *falling(tuple(told[0]), reason), whose, told_to_end=True)
            if not self.lives(b):
                return
        self.events.append(("ended", b, reason, whose))
        del self.folk[b[2]]
        for word in sorted([word for word, address in self.words if address == b]):
            self.events.append(("unnamed", b, word))
            self.words.discard((word, b))
            self.outs.append((None, None, ("word", word, b, False)))
        for sender, _, letter in told[1][1]:
            self.events.append(("lost", b, sender, letter, "ended"))
        for c in told[2]:
            self.hear(c, b, reason) if c[1] == self.h else self.outs.append((b, c, ("signal", reason)))
        for c in told[3]:
            self.hear_down(c, b, reason) if c[1] == self.h else self.outs.append((b, c, ("down", reason)))

    def hear(self, c, b, reason):
        if not self.lives(c) or b not in self.folk[c[2]][2]:
            return
        told = self.folk[c[2]]
        told[2] = tuple([one for one in told[2] if one != b])
        if len(told[0]) == 7:
            self.answered(c, *answer(told[0], b, reason, clock=self.clock), b)
        elif told[5]:
            self.give(c, ("exit", (b, reason)))
        elif reason != "done":
            self.end(c, reason, b)

    def hear_down(self, c, b, reason):
        if self.lives(c) and b in self.folk[c[2]][4]:
            self.folk[c[2]][4] = tuple([one for one in self.folk[c[2]][4] if one != b])
            self.give(c, ("down", (b, reason)))

    def answered(self, c, value, deeds, whose, told_to_end=False):
        told = self.folk[c[2]]
        told[0] = value
        shut = [deed[1] for deed in deeds if deed[0] == "end"]
        told[2] = tuple([one for one in told[2] if one not in shut])
        for deed in deeds:
            if deed[0] == "end" and self.lives(deed[1]):
                self.end(deed[1], "shut", c)
            if deed[0] == "begin" and self.lives(c):
                self.begin(c, deed[1])
            if deed[0] == "fall" and self.lives(c) and not told_to_end:
                self.end(c, deed[1], whose)

    def begin(self, c, k):
        address = ("at", self.h, self.made)
        self.events.append(("anew", c, k, address))
        value = self.folk[c[2]][0]
        self.folk[c[2]][0] = (*value[:5], (*value[5][:k], address, *value[5][k + 1:]), value[6])
        self.make(value[4][k], c)

    def make(self, row, by):
        address = ("at", self.h, self.made)
        self.made += 1
        event = len(self.events)
        self.events.append(None)
        self.folk[address[2]] = [None, (0, ()), () if by is None else (by,), (), (), False, self.clock]
        if by is not None:
            self.folk[by[2]][2] = tuple(sorted([*self.folk[by[2]][2], address]))
        value = row
        if len(row) == 5:
            now = tuple([None if part is None else self.make(part, address) for part in row[4]])
            value = ("keeper", *row[1:], now, ())
        self.folk[address[2]][0] = value
        self.events[event] = ("made", address, by, value)
        return address

    def told(self):
        folk = tuple([(n, tuple(self.folk[n])) for n in sorted(self.folk)])
        return (self.h, self.clock, self.made, self.loaded, folk, tuple(sorted(self.words))), tuple(self.events), tuple(self.outs)


class MadeUp(unittest.TestCase):
    """Made-up houses of keepers and folk linked any way: their ends are as they are told plainly."""

    def house(self, founder):
        chance = founder.chance
        house = void_house(0, clock=chance.randrange(4))
        for _ in range(chance.randrange(1, 4)):
            house, _, _ = rooted(house, founder.row(LIBRARY[:1], 1) or REST)
        folk = {n: [list(part) if k in (2, 3, 4) else part for k, part in enumerate(told)] for n, told in house[4]}
        for _ in range(chance.randrange(12)):
            one, other = founder.one_of(sorted(folk)), founder.one_of(sorted(folk))
            if one != other:
                for a, b in ((one, other), (other, one)):
                    folk[a][2].append(at(b))
        for n in folk:
            for _ in range(chance.randrange(3)):
                other = founder.one_of((*sorted(folk), 99))
                if other != n and len(folk[n][0]) == 3:
                    folk[n][4].append(at(other))
                    if other in folk:
                        folk[other][3].append(at(n))
            folk[n][chance.randrange(2, 4)].append(at(chance.randrange(3), 1))
            if len(folk[n][0]) == 3:
                folk[n][5] = chance.randrange(5) == 0
                folk[n][1] = (0, tuple([ADD for _ in range(chance.randrange(2))]))
        lives = {n: tuple([tuple(sorted(set(part))) if k in (2, 3, 4) else part for k, part in enumerate(told)]) for n, told in folk.items()}
        words = {(founder.one_of(("boss", "red", "blue")), at(founder.one_of(sorted(folk)))) for _ in range(chance.randrange(3))}
        return (*house[:4], tuple(sorted(lives.items())), tuple(sorted(words)))

    def test_made_up_ones(self):
        founder = Founder(35)
        counts = {}
        for _ in range(1500):
            house = self.house(founder)
            for _ in range(3):
                if not house[4] or len(house[4]) > 60:
                    break
                n, reason = founder.one_of(house[4])[0], founder.one_of(("done", "odd", "old", "worse"))
                teller = Teller(house)
                teller.end(at(n), reason, None)
                house, events, outs = ended(house, n, reason)
                self.assertEqual((house, events, outs), teller.told())
                for event in events:
                    word = event[0] if event[0] != "ended" else event[2]
                    counts[word] = counts.get(word, 0) + 1
        self.assertLessEqual({"anew", "made", "lost", "unnamed", "done", "odd", "old", "shut", "beyond"}, set(counts))
        self.assertGreater(min(counts.values()), 100)


if __name__ == "__main__":
    unittest.main()
