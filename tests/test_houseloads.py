"""Points 40 and 50: a house loads an edition, its rows are led, and those of editions loaded no more leave."""

import unittest

from founding import ANY, LIBRARY, at, caught, life
from housing import REST, house_of, keeper
from letterfolk.codereader import read_code
from letterfolk.errors import FolkError, NoStep, RunError
from letterfolk.houseloads import house_loaded
from making import TOP, kinds_of

FAR = at(4, 1)
# In LIBRARY count comes to count n 7 in edition 1, then to tally n - m; rest comes to rest in edition 1 and no further.
COUNT = ("count", (3,), 0)
COUNT_ONE, COUNT_TWO = ("count", (3, 7), 1), ("tally", (-4,), 2)
REST_ONE = ("rest", (), 1)
KEEPER_TWO = ("keeper", (1, 2, 3), 2)


class Loads(unittest.TestCase):
    def load(self, folk, edition=1, loaded=(0,), root=None, library=LIBRARY, **more):
        """(lives, root, events, outs) behind a load."""
        before = house_of(folk, loaded=loaded, **more)
        house, *told = house_loaded(library, before, edition, root=root)
        self.assertEqual((house[:2], house[3]), (before[:2], (edition - 1, edition)))
        return (dict(house[4]), *told)


class Refused(Loads):
    def test_as_loads_are(self):
        house = house_of({0: life(REST)}, loaded=(0, 1))
        for thing in (*ANY, 0, 1, 3, 4, 5, -1, TOP, True, False, "2", (2,), [2], None):
            self.assertEqual(caught(self, NoStep, house_loaded, LIBRARY, house, thing).word, "edition")
        for family in (RunError, FolkError, ValueError):
            with self.assertRaises(family):
                house_loaded(LIBRARY, house, True, root=COUNT)
        self.assertEqual(house, house_of({0: life(REST)}, loaded=(0, 1)))
        self.assertEqual(caught(self, NoStep, house_loaded, LIBRARY, house_of({}, loaded=(2, 3)), 4).word, "edition")
        self.assertEqual(caught(self, NoStep, house_loaded, LIBRARY, house_of({}), True).word, "edition")


class Roots(Loads):
    def test_left_out_and_none(self):
        told = house_loaded(LIBRARY, house_of({}), 1)
        self.assertEqual(told, (house_of({}, loaded=(0, 1)), None, (), ()))
        self.assertEqual(house_loaded(LIBRARY, house_of({}), 1, root=None), told)

    def test_a_state(self):
        for edition, loaded, root, led in (
                (1, (0,), COUNT, COUNT_ONE), (1, (0,), REST, REST_ONE), (2, (0, 1), COUNT_ONE, COUNT_TWO), (2, (0, 1), REST_ONE, REST_ONE),
                (2, (0, 1), COUNT, None), (3, (1, 2), REST_ONE, None), (3, (1, 2), KEEPER_TWO, ("plan", (), 3)), (3, (1, 2), ("plan", (), 3), ("plan", (), 3))):
            self.assertEqual(self.load({}, edition, loaded, root), ({}, led, (), ()))

    def test_a_plan(self):
        inner = ("plan", "all", 1, 2, (REST, COUNT_ONE, None))
        root = ("plan", "one", 3, 4, (inner, COUNT, COUNT))
        led = ("plan", "one", 3, 4, (("plan", "all", 1, 2, (None, COUNT_TWO, None)), None, None))
        self.assertEqual(self.load({}, 2, (0, 1), root)[1], led)


class Keepers(Loads):
    def folk(self, rows, n=0, past=(2, 3)):
        """A keeper of these rows whose first child lives, in the newest edition."""
        first = life(keeper(*(n + 1, *[None for _ in rows[1:]]), rows=rows, past=past), has=(at(n + 1),), known=(FAR,))
        return {n: first, n + 1: life(REST_ONE, has=(at(n),))}

    def test_rows_are_led(self):
        folk = self.folk((COUNT, None, REST_ONE))
        lives, _, events, outs = self.load(folk)
        rows = (COUNT_ONE, None, REST_ONE)
        self.assertEqual((events, outs), ((("led", at(0), rows),), ()))
        self.assertEqual(lives, {**folk, 0: life(keeper(1, None, None, rows=rows, past=(2, 3)), has=(at(1),), known=(FAR,))})

    def test_no_event_where_rows_stay(self):
        for rows in ((REST_ONE, None), ((("plan", "one", 1, 1, (REST_ONE, None))), None), (None,)):
            folk = self.folk(rows)
            lives, _, events, _ = self.load(folk)
            self.assertEqual((lives, events), (folk, ()))

    def test_rows_of_plans_within(self):
        plan, led = ("plan", "rest", 1, 1, (None, COUNT)), ("plan", "rest", 1, 1, (None, COUNT_ONE))
        _, _, events, _ = self.load(self.folk((REST_ONE, ("plan", "one", 0, 1, (plan,)))))
        self.assertEqual(events, (("led", at(0), (REST_ONE, ("plan", "one", 0, 1, (led,)))),))

    def test_by_address_rising(self):
        folk = {**self.folk((COUNT,), 12), **self.folk((REST_ONE,), 4), **self.folk((REST,), 2), **self.folk((COUNT,), 8)}
        _, _, events, _ = self.load(folk)
        self.assertEqual(events, (("led", at(2), (REST_ONE,)), ("led", at(8), (COUNT_ONE,)), ("led", at(12), (COUNT_ONE,))))

    def test_in_another_house(self):
        folk = {3: life(keeper(None, rows=(COUNT,)))}
        _, _, events, _ = self.load(folk, h=2)
        self.assertEqual(events, (("led", at(3, 2), (COUNT_ONE,)),))


class Leaving(Loads):
    def test_who_is_in_a_loaded_edition_stays(self):
        folk = {0: life(COUNT, since=2), 1: life(REST)}
        self.assertEqual(self.load(folk), (folk, None, (), ()))
        folk = {0: life(COUNT_ONE, since=2), 1: life(COUNT_TWO)}
        self.assertEqual(self.load(folk, 2, (0, 1)), (folk, None, (), ()))

    def test_others_leave_by_address(self):
        folk = {n: life(state) for n, state in ((7, COUNT), (0, REST), (3, COUNT_ONE), (12, REST), (2, COUNT_TWO))}
        lives, _, events, outs = self.load(folk, 2, (0, 1))
        self.assertEqual((events, outs), (tuple([("ended", at(n), "old", None) for n in (0, 7, 12)]), ()))
        self.assertEqual(lives, {3: folk[3], 2: folk[2]})

    def test_one_by_one_with_all_that_comes_of_it(self):
        folk = {
            0: life(REST, has=(at(5), FAR), known=(at(5),)), 1: life(REST, has=(at(6),), traps=True, mails=((at(0), 0, ("hit", ())),)),
            5: life(COUNT_ONE, has=(at(0), at(6)), watches=(at(0),)), 6: life(COUNT_ONE, has=(at(1), at(5)), traps=True),
        }
        lives, _, events, outs = self.load(folk, 2, (0, 1), words=(("boss", at(1)),))
        self.assertEqual(events, (
            ("ended", at(0), "old", None), ("ended", at(5), "old", at(0)), ("ended", at(1), "old", None), ("unnamed", at(1), "boss"),
            ("lost", at(1), at(0), ("hit", ()), "ended")))
        self.assertEqual(outs, ((at(0), FAR, ("signal", "old")), (None, None, ("word", "boss", at(1), False))))
        mails = tuple([(None, None, ("exit", (at(n), "old"))) for n in (5, 1)])
        self.assertEqual(lives, {6: life(COUNT_ONE, traps=True, mails=mails)})

    def test_if_it_still_lives(self):
        folk = {0: life(REST, has=(at(1),)), 1: life(REST, has=(at(0),))}
        self.assertEqual(self.load(folk, 2, (0, 1))[2], (("ended", at(0), "old", None), ("ended", at(1), "old", at(0))))

    def test_children_begin_anew_by_rows_as_led(self):
        rows = (COUNT_ONE, REST_ONE, REST)
        folk = {
            0: life(keeper(1, 2, 3, way="all", most=0, rows=rows, past=()), has=(at(1), at(2), at(3))), 1: life(COUNT, has=(at(0),)),
            2: life(REST_ONE, has=(at(0),)), 3: life(REST, has=(at(0),)),
        }
        lives, _, events, _ = self.load(folk, 2, (0, 1))
        led = (COUNT_TWO, REST_ONE, None)
        self.assertEqual(events, (
            ("led", at(0), led), ("ended", at(1), "old", None), ("anew", at(0), 0, at(20)), ("made", at(20), at(0), COUNT_TWO),
            ("ended", at(3), "old", None)))
        self.assertEqual(lives[0], life(keeper(20, 2, None, way="all", most=0, rows=led), has=(at(2), at(20))))
        self.assertEqual(lives[20], life(COUNT_TWO, has=(at(0),), since=5))

    def test_a_keeper_does_not_leave(self):
        folk = {0: life(keeper(None, None, rows=(REST, None)))}
        lives, _, events, _ = self.load(folk, 2, (0, 1))
        self.assertEqual((lives, events), ({0: life(keeper(None, None, rows=(None, None)))}, (("led", at(0), (None, None)),)))

    def test_a_state_of_a_behaviour_called_keeper(self):
        codes = [read_code("be keeper a b c\nlate 1\nend 'done")] * 3
        library = tuple([(code, ((), ())) for code in codes])
        folk = {0: life(("keeper", (1, 2, 3), 0)), 1: life(("keeper", (1, 2, 3), 1))}
        lives, _, events, _ = self.load(folk, 2, (0, 1), library=library)
        self.assertEqual((lives, events), ({1: folk[1]}, (("ended", at(0), "old", None),)))


class Names(Loads):
    def test_kinds_names_and_what_is_handed_in(self):
        folk = {0: life(keeper(1, rows=(COUNT,)), has=(at(1),)), 1: life(COUNT, has=(at(0),))}
        house = house_of(folk)
        told = house_loaded(root=COUNT, edition=1, house=house, library=LIBRARY)
        self.assertEqual(told, house_loaded(LIBRARY, house, 1, root=COUNT))
        self.assertEqual(kinds_of(told), {tuple, str, int, bool})
        self.assertEqual(house, house_of(folk))
        with self.assertRaises(TypeError):
            house_loaded(LIBRARY, house, 1, COUNT)


if __name__ == "__main__":
    unittest.main()
