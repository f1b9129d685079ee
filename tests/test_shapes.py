"""Point 48: the sheet of a house, the shape of an address, and whether any thing is that shape."""

import unittest

from founding import ANY, LIBRARY, Founder, at, caught, life
from letterfolk.beginnings import begun
from letterfolk.errors import FolkError, NoPaper, PaperError
from letterfolk.shapechecker import lets_shape
from letterfolk.shapes import shape_of, sheet_of
from making import kinds_of, nested, places, replaced

REST = ("rest", (), 0)
BOSS, UNDER, LOW, ALONE = at(2), at(3), at(6), at(9)
# Two keepers, one within the other, with rows None and rows whose child doesn't live.
UNDER_WHAT = ("keeper", "all", 1, 2, (REST, REST, None), (at(4), None, None), (1,))
BOSS_WHAT = ("keeper", "one", 1, 2, (("plan", "all", 1, 2, UNDER_WHAT[4]), None, REST, REST), (UNDER, None, LOW, None), ())
SHEET = (
    (BOSS, BOSS_WHAT, (UNDER, LOW, at(8, 1))), (UNDER, UNDER_WHAT, (BOSS, at(4))), (at(4), REST, (UNDER,)),
    (LOW, ("count", (5,), 0), (BOSS, ALONE)), (ALONE, ("keeper", (1, 2, 3), 2), (LOW,)),
)
UNDER_SHAPE = (UNDER, ((at(4), None), None, None))
BOSS_SHAPE = (BOSS, (UNDER_SHAPE, None, (LOW, None), None))


def without(address):
    """The sheet without this one."""
    return tuple([row for row in SHEET if row[0] != address])


def turned(address, what=None, has=None):
    """The sheet with something else for this one."""
    return tuple([(one, what or old, old_has if has is None else has) if one == address else (one, old, old_has) for one, old, old_has in SHEET])


def sheet_of_begun(row, house=0, n=0):
    """The sheet of the lives that come of a row, who have one another as point 45 tells."""
    lives, _ = begun(row, house=house, n=n)
    has = {address: [] for address, _, _ in lives}
    for address, _, by in lives:
        if by is not None:
            has[by].append(address)
            has[address].append(by)
    return tuple([(address, what, tuple(sorted(has[address]))) for address, what, _ in lives])


class SheetOf(unittest.TestCase):
    def test_lives(self):
        folk = ((0, life(has=(at(3, 1), at(5, 1)))), (3, life(BOSS_WHAT, known=(at(0, 1),))), (5, life(("count", (5,), 0), has=(at(0, 1),), watches=(at(3, 1),))))
        house = (1, 5, 9, (0,), folk, ())
        told = ((at(0, 1), REST, (at(3, 1), at(5, 1))), (at(3, 1), BOSS_WHAT, ()), (at(5, 1), ("count", (5,), 0), (at(0, 1),)))
        self.assertEqual(sheet_of(house), told)
        self.assertEqual(sheet_of(house=house), told)
        self.assertEqual(list(sheet_of(house)), sorted(sheet_of(house)))
        self.assertLessEqual(kinds_of(sheet_of(house)), {tuple, str, int, type(None)})

    def test_nobody(self):
        self.assertEqual(sheet_of((1, 5, 9, (0,), (), ())), ())


class ShapeOf(unittest.TestCase):
    def test_keepers_within_one_another(self):
        self.assertEqual(shape_of(SHEET, BOSS), BOSS_SHAPE)
        self.assertEqual(shape_of(SHEET, UNDER), UNDER_SHAPE)
        self.assertEqual(shape_of(address=BOSS, sheet=SHEET), BOSS_SHAPE)
        self.assertLessEqual(kinds_of(shape_of(SHEET, BOSS)), {tuple, str, int, type(None)})

    def test_of_one_in_a_state(self):
        for address in (at(4), LOW, ALONE):
            self.assertEqual(shape_of(SHEET, address), (address, None))

    def test_keepers_of_nobody(self):
        for now in ((), (None,), (None, None)):
            sheet = ((at(1), ("keeper", "one", 0, 1, (REST,) * len(now), now, ()), ()),)
            self.assertEqual(shape_of(sheet, at(1)), (at(1), now))

    def test_none_in_the_sheet(self):
        things = (at(0), at(5), at(2, 1), ("at", 0, True), ("at", False, 2), ["at", 0, 2], ("at", 0, 2, 0), 2, SHEET, BOSS_SHAPE, *ANY)
        for thing in things:
            refused = caught(self, NoPaper, shape_of, SHEET, thing)
            self.assertEqual(refused.word, "lives")
            self.assertIs(refused.at, thing)
        sheet = ((at(0), REST, ()), (at(1), REST, ()))
        for thing in (("at", False, 0), ("at", 0, False), ("at", 0, True)):
            self.assertIs(caught(self, NoPaper, shape_of, sheet, thing).at, thing)
        for family in (PaperError, FolkError, ValueError):
            with self.assertRaises(family):
                shape_of(SHEET, None)

    def test_a_child_that_is_not_in_the_sheet(self):
        for address in (UNDER, at(4), LOW):
            refused = caught(self, NoPaper, shape_of, without(address), BOSS)
            self.assertEqual((refused.word, refused.at), ("lives", address))
        self.assertEqual(shape_of(without(LOW), UNDER), UNDER_SHAPE)

    def test_the_first_child_so(self):
        both = tuple([row for row in SHEET if row[0] not in (at(4), LOW)])
        self.assertEqual(caught(self, NoPaper, shape_of, both, BOSS).at, at(4))
        # The greater address stands in the row ahead.
        what = (*BOSS_WHAT[:5], (LOW, None, UNDER, None), ())
        self.assertEqual(caught(self, NoPaper, shape_of, ((BOSS, what, ()),), BOSS).at, LOW)


class LetsShape(unittest.TestCase):
    def check(self, word, address, thing, sheet=SHEET, asked=BOSS):
        refused = caught(self, NoPaper, lets_shape, sheet, asked, thing)
        self.assertEqual((refused.word, refused.at), (word, address))
        self.assertIs(type(refused.at), type(address))

    def test_how_many_lives(self):
        self.assertEqual(lets_shape(SHEET, BOSS, BOSS_SHAPE), 4)
        self.assertEqual(lets_shape(SHEET, UNDER, UNDER_SHAPE), 2)
        self.assertEqual(lets_shape(thing=(LOW, None), address=LOW, sheet=SHEET), 1)
        self.assertEqual(lets_shape(SHEET, ALONE, (ALONE, None)), 1)
        self.assertIs(type(lets_shape(SHEET, LOW, (LOW, None))), int)

    def test_no_shape_by_kind(self):
        things = (*ANY, BOSS, (BOSS,), (BOSS, None, None), [BOSS, None], (BOSS, []), (BOSS, True), (BOSS, False), (BOSS, 0), (BOSS, "a"), (("at", 0, True), None),
                  (list(BOSS), None), (2, None), (None, None), (BOSS, (True,)), (BOSS, (0,)), (BOSS, (BOSS,)), (BOSS, ((),)), (BOSS, [UNDER_SHAPE]))
        for thing in things:
            self.check("shape", -1, thing)
            # It is ahead of all else, also deep within, and whoever is asked for.
            self.check("shape", -1, thing, asked=thing)
            self.check("shape", -1, thing, sheet=())
            if thing is not None:
                self.check("shape", -1, (BOSS, (UNDER_SHAPE, None, thing, None)))
                self.check("shape", -1, (ALONE, ((at(30), (thing, None)),)))
                self.check("shape", -1, (ALONE, (None, (at(30), (None, (at(31), (None, thing)))))))
        self.check("shape", -1, nested(BOSS_SHAPE, 20))
        for path, part in places(BOSS_SHAPE):
            if isinstance(part, tuple):
                self.check("shape", -1, replaced(BOSS_SHAPE, path, list(part)))

    def test_not_the_one_asked_for(self):
        for asked in (UNDER, LOW, at(50), *ANY, (BOSS,), list(BOSS)):
            self.check("who", BOSS, BOSS_SHAPE, asked=asked)

    def test_true_is_no_one(self):
        sheet = ((at(0), REST, ()), (at(1), REST, ()), (at(1, 1), REST, ()))
        for asked, own in ((("at", 0, True), at(1)), (("at", False, 1), at(1)), (("at", True, 1), at(1, 1)), (("at", False, 0), at(0)), (("at", 0, False), at(0))):
            self.check("who", own, (own, None), sheet=sheet, asked=asked)
        self.assertEqual(lets_shape(sheet, at(1), (at(1), None)), 1)

    def test_not_the_one_that_now_has_there(self):
        self.check("who", LOW, (BOSS, ((LOW, None), None, (UNDER, None), None)))
        self.check("who", ALONE, (BOSS, (UNDER_SHAPE, None, (ALONE, None), None)))
        self.check("who", at(40), (BOSS, (UNDER_SHAPE, None, (at(40), (None,)), None)))
        self.check("who", LOW, (BOSS, ((UNDER, ((LOW, None), None, None)), None, (LOW, None), None)))

    def test_not_in_the_sheet(self):
        self.check("lives", BOSS, BOSS_SHAPE, sheet=without(BOSS))
        self.check("lives", UNDER, BOSS_SHAPE, sheet=without(UNDER))
        self.check("lives", at(4), BOSS_SHAPE, sheet=without(at(4)))
        self.check("lives", LOW, BOSS_SHAPE, sheet=without(LOW))
        self.check("lives", BOSS, BOSS_SHAPE, sheet=())
        self.check("lives", at(50), (at(50), None), asked=at(50))

    def test_they_have_one_another(self):
        self.check("has", UNDER, BOSS_SHAPE, sheet=turned(BOSS, has=(LOW,)))
        self.check("has", UNDER, BOSS_SHAPE, sheet=turned(UNDER, has=(at(4),)))
        self.check("has", LOW, BOSS_SHAPE, sheet=turned(BOSS, has=(UNDER,)))
        self.check("has", LOW, BOSS_SHAPE, sheet=turned(LOW, has=()))
        self.check("has", at(4), BOSS_SHAPE, sheet=turned(UNDER, has=(BOSS,)))
        self.check("has", at(4), BOSS_SHAPE, sheet=turned(at(4), has=(BOSS,)))

    def test_nobody_else_need_have_them(self):
        self.assertEqual(lets_shape(turned(BOSS, has=()), UNDER, UNDER_SHAPE), 2)
        self.assertEqual(lets_shape(turned(UNDER, has=(at(4),)), UNDER, UNDER_SHAPE), 2)
        self.assertEqual(lets_shape(turned(LOW, has=()), LOW, (LOW, None)), 1)

    def test_parts(self):
        # None of a keeper; no None of one in a state.
        self.check("parts", BOSS, (BOSS, None))
        self.check("parts", UNDER, (BOSS, ((UNDER, None), None, (LOW, None), None)))
        for parts in ((), (None,), ((at(4), None),)):
            self.check("parts", LOW, (LOW, parts), asked=LOW)
            self.check("parts", LOW, (BOSS, (UNDER_SHAPE, None, (LOW, parts), None)))
        # A behaviour called keeper has no parts.
        self.check("parts", ALONE, (ALONE, (None, None, None)), asked=ALONE)
        # Not as many as rows.
        for parts in ((), BOSS_SHAPE[1][:3], (*BOSS_SHAPE[1], None), (UNDER_SHAPE,), (*BOSS_SHAPE[1], (ALONE, None))):
            self.check("parts", BOSS, (BOSS, parts))
        # None where now has an address, and the other way about.
        for k, part in ((0, None), (2, None), (1, (at(4), None)), (3, (ALONE, None)), (1, UNDER_SHAPE)):
            self.check("parts", BOSS, (BOSS, replaced(BOSS_SHAPE[1], (k,), part)))

    def test_the_first_of_several_words(self):
        gone = without(BOSS)
        self.check("who", BOSS, (BOSS, None), sheet=gone, asked=UNDER)
        self.check("lives", BOSS, (BOSS, None), sheet=gone)
        unlinked = turned(UNDER, has=())
        self.check("has", UNDER, (BOSS, ((UNDER, None), None, (LOW, None), None)), sheet=unlinked)
        self.check("who", LOW, (BOSS, ((LOW, None), None, (LOW, None), None)), sheet=without(LOW))
        self.check("lives", UNDER, (BOSS, ((UNDER, None), None, (LOW, None), None)), sheet=without(UNDER))

    def test_a_keeper_is_ahead_of_its_parts(self):
        self.check("parts", BOSS, (BOSS, ((at(50), None), None, None, None)))
        self.check("parts", UNDER, (BOSS, ((UNDER, ((at(50), None),)), None, (LOW, None), None)))
        self.check("has", UNDER, BOSS_SHAPE, sheet=tuple([row for row in turned(UNDER, has=(at(4),)) if row[0] != at(4)]))

    def test_each_part_is_whole_ahead_of_the_next(self):
        self.check("who", at(50), (BOSS, ((UNDER, ((at(50), None), None, None)), None, (at(51), None), None)))
        self.check("parts", at(4), (BOSS, ((UNDER, ((at(4), ()), None, None)), None, (at(51), None), None)))
        self.check("who", at(51), (BOSS, (UNDER_SHAPE, None, (at(51), ()), None)))
        both = tuple([row for row in SHEET if row[0] not in (at(4), LOW)])
        self.check("lives", at(4), BOSS_SHAPE, sheet=both)

    def test_what_is_handed_in_stays(self):
        thing = [BOSS, [None]]
        self.check("shape", -1, thing)
        self.assertEqual(thing, [BOSS, [None]])

    def test_made_up_ones(self):
        founder = Founder(48)
        for _ in range(80):
            plan = founder.plan(LIBRARY)
            n = founder.chance.randrange(9)
            sheet = sheet_of_begun(plan, house=1, n=n)
            for address, what, _ in sheet:
                shape = shape_of(sheet, address)
                self.assertEqual(shape[1] is None, len(what) == 3)
                # The lives of a keeper stand behind it, by their numbers.
                many = lets_shape(sheet, address, shape)
                self.assertEqual(many, str(shape).count("'at'"))
                for other in sheet:
                    if other[0] != address:
                        self.check("who", address, shape, sheet=sheet, asked=other[0])
                for path, part in places(shape):
                    if part is None:
                        spoiled = replaced(shape, path, (at(999), None) if path[-1] != 1 or len(path) % 2 == 0 else ())
                        self.assertIn(caught(self, NoPaper, lets_shape, sheet, address, spoiled).word, ("parts", "shape"))


if __name__ == "__main__":
    unittest.main()
