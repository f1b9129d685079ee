"""Points 41 and 50: rows led by what is loaded."""

import unittest

from founding import LIBRARY, Founder, at
from letterfolk.keepers import is_plan
from letterfolk.leading import state_led
from letterfolk.rowleading import row_led
from making import kinds_of


class RowLed(unittest.TestCase):
    def check(self, loaded, row, told):
        self.assertEqual(row_led(LIBRARY, loaded, row), told)

    def test_just_below_the_newest_and_led(self):
        self.check((0, 1), ("count", (5,), 0), ("count", (5, 7), 1))
        self.check((0, 1), ("rest", (), 0), ("rest", (), 1))
        self.check((1, 2), ("count", (9, 2), 1), ("tally", (7,), 2))
        self.check((2, 3), ("keeper", (1, at(2), "red"), 2), ("plan", (), 3))

    def test_just_below_the_newest_and_not_led(self):
        self.check((1, 2), ("rest", (), 1), ("rest", (), 1))

    def test_below_those_loaded(self):
        # Tables would lead the first to 2 and to 3.
        self.check((1, 2), ("count", (5,), 0), None)
        self.check((2, 3), ("count", (5,), 0), None)
        self.check((2, 3), ("count", (9, 2), 1), None)
        self.check((1, 2), ("rest", (), 0), None)
        self.check((2, 3), ("rest", (), 1), None)
        self.check((2,), ("count", (5,), 0), None)
        self.check((3,), ("count", (9, 2), 1), None)

    def test_of_the_newest(self):
        self.check((0,), ("count", (5,), 0), ("count", (5,), 0))
        self.check((0, 1), ("count", (5, 6), 1), ("count", (5, 6), 1))
        self.check((1, 2), ("tally", (5,), 2), ("tally", (5,), 2))
        self.check((3,), ("plan", (), 3), ("plan", (), 3))

    def test_one_edition_alone(self):
        self.check((1,), ("count", (5,), 0), ("count", (5, 7), 1))
        self.check((2,), ("rest", (), 1), None)

    def test_none(self):
        for loaded in ((0,), (2,), (0, 1), (2, 3)):
            self.check(loaded, None, None)

    def test_plans_within_one_another(self):
        low = ("plan", "all", 3, 4, (("rest", (), 1), None, ("count", (9, 2), 1)))
        row = ("plan", "one", 1, 2, (("count", (5,), 0), low, ("tally", (5,), 2), ("plan", "rest", 0, 1, ()), None))
        led = ("plan", "all", 3, 4, (("rest", (), 1), None, ("tally", (7,), 2)))
        self.check((1, 2), row, ("plan", "one", 1, 2, (None, led, ("tally", (5,), 2), ("plan", "rest", 0, 1, ()), None)))
        self.check((0, 1), ("plan", "one", 1, 2, (("count", (5,), 0),)), ("plan", "one", 1, 2, (("count", (5, 7), 1),)))

    def test_a_plan_stays_one_though_none_of_its_rows_does(self):
        self.check((2, 3), ("plan", "one", 1, 2, (("count", (5,), 0), ("rest", (), 1))), ("plan", "one", 1, 2, (None, None)))

    def test_kinds_and_names(self):
        told = row_led(row=("plan", "one", 1, 2, (("count", (5,), 0), None)), loaded=(0, 1), library=LIBRARY)
        self.assertEqual(told, ("plan", "one", 1, 2, (("count", (5, 7), 1), None)))
        self.assertEqual(kinds_of(told), {tuple, str, int, type(None)})

    def test_made_up_ones(self):
        founder = Founder(50)
        counts = {}
        for _ in range(150):
            library = founder.library(4)
            newest = founder.chance.randrange(len(library))
            for loaded in ((newest - 1, newest),) if newest else ((0,),):
                plan = founder.plan(library)
                told = row_led(library, loaded, plan)
                self.assertTrue(is_plan(library, told))
                self.compare(library, loaded, plan, told, counts)
        self.assertGreater(min(counts.values()), 20)
        self.assertEqual(set(counts), {"led", "gone", "stays", "none"})

    def compare(self, library, loaded, row, told, counts):
        """Whether told is the row led, part by part."""
        if row is None:
            word, right = "none", told is None
        elif row[0] == "plan" and len(row) == 5:
            self.assertEqual((row[:4], len(row[4])), (told[:4], len(told[4])))
            for part, other in zip(row[4], told[4]):
                self.compare(library, loaded, part, other, counts)
            return
        elif row[2] not in loaded and row[2] < loaded[-1]:
            word, right = "gone", told is None
        else:
            led = state_led(library, row, to=loaded[-1]) if row[2] == loaded[-1] - 1 else None
            word, right = ("stays", told == row) if led is None else ("led", told == led)
        self.assertTrue(right, (row, told))
        counts[word] = counts.get(word, 0) + 1


if __name__ == "__main__":
    unittest.main()
