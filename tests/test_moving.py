"""Point 43: in which state one is who says go, by what its house has loaded."""

import unittest

from founding import LIBRARY, Founder, at
from letterfolk.leading import state_led
from letterfolk.moving import moved
from making import kinds_of


class Moved(unittest.TestCase):
    def check(self, loaded, state, told):
        self.assertEqual(moved(LIBRARY, loaded, state), told)

    def test_it_moves(self):
        self.check((0, 1), ("count", (5,), 0), ("count", (5, 7), 1))
        self.check((0, 1), ("rest", (), 0), ("rest", (), 1))
        self.check((1, 2), ("count", (9, 2), 1), ("tally", (7,), 2))
        self.check((2, 3), ("keeper", (1, at(2), "red"), 2), ("plan", (), 3))

    def test_the_next_one_is_not_loaded(self):
        self.check((0,), ("count", (5,), 0), ("count", (5,), 0))
        self.check((1,), ("count", (9, 2), 1), ("count", (9, 2), 1))
        self.check((2,), ("keeper", (1, 2, 3), 2), ("keeper", (1, 2, 3), 2))
        self.check((3,), ("plan", (), 3), ("plan", (), 3))

    def test_a_state_in_the_newest_one(self):
        self.check((0, 1), ("count", (9, 2), 1), ("count", (9, 2), 1))
        self.check((1, 2), ("tally", (7,), 2), ("tally", (7,), 2))
        self.check((2, 3), ("tally", (7, 7), 3), ("tally", (7, 7), 3))

    def test_no_row(self):
        self.check((1, 2), ("rest", (), 1), ("rest", (), 1))

    def test_one_edition_alone(self):
        # It would be led on from 1 to 2 and 3, which aren't loaded with it.
        self.check((0, 1), ("count", (5,), 0), state_led(LIBRARY, ("count", (5,), 0), to=1))

    def test_kinds_and_names(self):
        told = moved(state=("count", (5,), 0), loaded=(0, 1), library=LIBRARY)
        self.assertEqual(told, ("count", (5, 7), 1))
        self.assertEqual(kinds_of(told), {tuple, str, int})

    def test_made_up_ones(self):
        founder = Founder(43)
        counts = {True: 0, False: 0}
        for _ in range(200):
            library = founder.library(4)
            state = founder.state(library)
            edition = state[2]
            self.assertEqual(moved(library, (edition,), state), state)
            if edition > 0:
                self.assertEqual(moved(library, (edition - 1, edition), state), state)
            if edition + 1 < len(library):
                led = state_led(library, state, to=edition + 1)
                self.assertEqual(moved(library, (edition, edition + 1), state), state if led is None else led)
                counts[led is None] += 1
        self.assertGreater(min(counts.values()), 20)


if __name__ == "__main__":
    unittest.main()
