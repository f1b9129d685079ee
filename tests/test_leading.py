"""Points 41 and 42: states and letters led from edition to edition, and what one makes of a letter of an edition."""

import unittest

from founding import LIBRARY, ONE, Founder, at
from letterfolk.codereader import read_code
from letterfolk.editions import is_library
from letterfolk.leading import letter_led, looked, state_led
from letterfolk.looks import behaviour_at
from letterfolk.sums import bound, worth
from making import TOP, kinds_of

VOID = ((), ())
ABC = "abcdefghijklmnopqrstuvwxyz"
CODE = read_code("be one n\nbe two a b")


def between(*tables):
    """A library of one code whose later editions have these tables."""
    return tuple([(CODE, table) for table in (VOID, *tables)])


def by_hand(sums, names, values):
    """What the sums are worth."""
    return tuple([worth(amount, bindings=bound((), names=names, values=values)) for amount in sums])


class StateLed(unittest.TestCase):
    def test_through_one_table(self):
        self.assertEqual(state_led(LIBRARY, ("count", (5,), 0), to=1), ("count", (5, 7), 1))
        self.assertEqual(state_led(LIBRARY, ("rest", (), 0), to=1), ("rest", (), 1))
        self.assertEqual(state_led(LIBRARY, ("count", (5, 7), 1), to=2), ("tally", (-2,), 2))
        self.assertEqual(state_led(LIBRARY, ("keeper", (1, "red", at(2)), 2), to=3), ("plan", (), 3))
        self.assertEqual(state_led(to=3, state=("tally", (at(3, 1),), 2), library=LIBRARY), ("tally", (at(3, 1), at(3, 1)), 3))

    def test_through_several(self):
        self.assertEqual(state_led(LIBRARY, ("count", (5,), 0), to=2), ("tally", (-2,), 2))
        self.assertEqual(state_led(LIBRARY, ("count", (5,), 0), to=3), ("tally", (-2, -2), 3))
        self.assertEqual(state_led(LIBRARY, ("count", (9, 1), 1), to=3), ("tally", (8, 8), 3))

    def test_to_its_own_edition(self):
        for state in (("count", (5,), 0), ("count", (5, 7), 1), ("rest", (), 1), ("keeper", (1, 2, 3), 2), ("plan", (), 3)):
            self.assertEqual(state_led(LIBRARY, state, to=state[2]), state)

    def test_no_row(self):
        self.assertIsNone(state_led(LIBRARY, ("rest", (), 1), to=2))
        self.assertIsNone(state_led(LIBRARY, ("rest", (), 1), to=3))
        # It is led to edition 1, but not on from there.
        self.assertIsNone(state_led(LIBRARY, ("rest", (), 0), to=2))
        self.assertIsNone(state_led(LIBRARY, ("rest", (), 0), to=3))

    def test_no_row_in_the_first_table_alone(self):
        one = ((("one", ("one", (("of", "n"),))),), ())
        self.assertIsNone(state_led(between(VOID, one, one), ("one", (1,), 0), to=3))
        self.assertIsNone(state_led(between(one, VOID, one), ("one", (1,), 0), to=3))
        self.assertIsNone(state_led(between(one, one, VOID), ("one", (1,), 0), to=3))
        self.assertEqual(state_led(between(one, one, VOID), ("one", (1,), 0), to=2), ("one", (1,), 2))
        self.assertEqual(state_led(between(one, one, one), ("one", (1,), 0), to=3), ("one", (1,), 3))

    def test_by_the_params_of_the_elder_code(self):
        codes = (read_code("be one n m"), read_code("be one m n"), read_code("be one n m"))
        same = ((("one", ("one", (("of", "n"), ("of", "m")))),), ())
        library = tuple(zip(codes, (VOID, same, same)))
        self.assertEqual(state_led(library, ("one", (1, 2), 0), to=1), ("one", (1, 2), 1))
        self.assertEqual(state_led(library, ("one", (1, 2), 0), to=2), ("one", (2, 1), 2))

    def test_sums_of_all_kinds(self):
        sums = (("minus", ("of", "b"), ("less", ("of", "a"), ("is", 9))), ("of", "n"))
        library = between(((("two", ("two", sums)),), ()))
        self.assertEqual(state_led(library, ("two", (3, TOP), 0), to=1), ("two", (TOP - 1, 0), 1))
        library = between(((("two", ("two", (("of", "b"), ("of", "a")))),), ()))
        self.assertEqual(state_led(library, ("two", ("red", at(4)), 0), to=1), ("two", (at(4), "red"), 1))

    def test_kinds(self):
        self.assertEqual(kinds_of(state_led(LIBRARY, ("count", (5,), 0), to=3)), {tuple, str, int})
        with self.assertRaises(TypeError):
            state_led(LIBRARY, ("count", (5,), 0), 1)


class LetterLed(unittest.TestCase):
    def test_through_one_table(self):
        self.assertEqual(letter_led(LIBRARY, ("add", (4,)), edition=0, to=1), ("add", (5,)))
        self.assertEqual(letter_led(LIBRARY, ("add", (4, 9)), edition=0, to=1), ("sum", (9, 4)))
        self.assertEqual(letter_led(LIBRARY, ("out", ()), edition=0, to=1), ("hit", ()))
        self.assertEqual(letter_led(LIBRARY, ("sum", (1, 2)), edition=1, to=2), ("big", (2, 0, 1)))
        self.assertEqual(letter_led(to=3, edition=2, letter=("big", (2, 0, 1)), library=LIBRARY), ("add", (1,)))

    def test_through_several(self):
        self.assertEqual(letter_led(LIBRARY, ("add", (4,)), edition=0, to=2), ("add", (5,)))
        self.assertEqual(letter_led(LIBRARY, ("add", (4,)), edition=0, to=3), ("hit", ()))
        self.assertEqual(letter_led(LIBRARY, ("add", (4, 9)), edition=0, to=2), ("big", (4, 0, 9)))
        self.assertEqual(letter_led(LIBRARY, ("add", (4, 9)), edition=0, to=3), ("add", (9,)))

    def test_to_its_own_edition(self):
        for edition in range(4):
            for letter in (("add", (4,)), ("none", ()), ("add", (1, 2, 3, 4))):
                self.assertEqual(letter_led(LIBRARY, letter, edition=edition, to=edition), letter)

    def test_no_row(self):
        for letter in (("add", ()), ("add", (1, 2, 3)), ("out", (1,)), ("hit", ()), ("none", ())):
            for to in (1, 2, 3):
                self.assertIsNone(letter_led(LIBRARY, letter, edition=0, to=to))
        self.assertIsNone(letter_led(LIBRARY, ("out", ()), edition=0, to=2))
        self.assertIsNone(letter_led(LIBRARY, ("out", ()), edition=0, to=3))
        self.assertIsNone(letter_led(LIBRARY, ("hit", ()), edition=1, to=2))

    def test_names_in_order(self):
        for many in range(27):
            sums = tuple([("of", name) for name in ABC[::-1]])
            library = between(((), ((("a", many), ("b", sums)),)))
            values = tuple(range(100, 100 + many))
            told = letter_led(library, ("a", values), edition=0, to=1)
            self.assertEqual(told, ("b", (*[0] * (26 - many), *values[::-1])))
            for other in (many - 1, many + 1, 27, 30):
                if other >= 0 and other != many:
                    self.assertIsNone(letter_led(library, ("a", (1,) * other), edition=0, to=1))

    def test_values_of_all_kinds(self):
        library = between(((), ((("a", 3), ("a", (("of", "c"), ("of", "b"), ("plus", ("of", "a"), ONE)))),)))
        self.assertEqual(letter_led(library, ("a", ("red", at(1, 2), -7)), edition=0, to=1), ("a", (-7, at(1, 2), 1)))
        with self.assertRaises(TypeError):
            letter_led(library, ("a", ()), 0, 1)


class Looked(unittest.TestCase):
    def check(self, letter, edition, own, told):
        found = looked(LIBRARY, letter, edition=edition, own=own)
        self.assertEqual(found, told)
        self.assertIs(type(found), tuple)

    def test_of_its_own(self):
        for edition in range(4):
            self.check(("none", (1, 2)), edition, edition, ("as", ("none", (1, 2))))
            self.check(("add", (4,)), edition, edition, ("as", ("add", (4,))))

    def test_of_a_later_one(self):
        for edition in range(1, 4):
            for own in range(edition):
                self.check(("add", (4,)), edition, own, ("waits",))
                self.check(("none", ()), edition, own, ("waits",))

    def test_led(self):
        self.check(("add", (4,)), 0, 1, ("led", ("add", (5,))))
        self.check(("add", (4, 9)), 0, 2, ("led", ("big", (4, 0, 9))))
        self.check(("add", (4, 9)), 0, 3, ("led", ("add", (9,))))
        # It is led though it is the same behind it.
        self.check(("add", (4,)), 1, 2, ("led", ("add", (4,))))

    def test_unseen(self):
        self.check(("none", ()), 0, 1, ("unseen", 1))
        self.check(("none", ()), 0, 3, ("unseen", 1))
        self.check(("none", ()), 2, 3, ("unseen", 3))
        # Led to 1, but not on to 2.
        self.check(("out", ()), 0, 2, ("unseen", 2))
        self.check(("out", ()), 0, 3, ("unseen", 2))
        self.check(("out", ()), 0, 1, ("led", ("hit", ())))

    def test_unseen_at_the_last(self):
        hit = ((), ((("hit", 0), ("hit", ())),))
        for n in range(1, 5):
            tables = [VOID if k == n else hit for k in range(1, 5)]
            for own in range(1, 5):
                told = looked(between(*tables), ("hit", ()), edition=0, own=own)
                self.assertEqual(told, ("led", ("hit", ())) if own < n else ("unseen", n))

    def test_by_names(self):
        self.assertEqual(looked(own=1, edition=0, letter=("add", (1,)), library=LIBRARY), ("led", ("add", (2,))))
        with self.assertRaises(TypeError):
            looked(LIBRARY, ("add", (1,)), 0, 1)


class MadeUp(unittest.TestCase):
    """Made-up libraries: through several tables is through each one, one behind the other."""

    def up(self, library, state):
        name, values, edition = state
        rows = dict(library[edition + 1][1][0])
        if name not in rows:
            return None
        params = behaviour_at(library[edition][0], name)[1]
        return (rows[name][0], by_hand(rows[name][1], params, values), edition + 1)

    def test_states(self):
        founder = Founder(41)
        led = 0
        for _ in range(150):
            library = founder.library(5)
            self.assertTrue(is_library(library))
            state = founder.state(library)
            told = state
            for to in range(state[2], len(library)):
                told = told if to == state[2] or told is None else self.up(library, told)
                self.assertEqual(state_led(library, state, to=to), told)
                led += told is not None and to > state[2]
        self.assertGreater(led, 50)

    def test_letters(self):
        founder = Founder(42)
        counts = {}
        for _ in range(250):
            library = founder.library(5)
            edition = founder.chance.randrange(len(library))
            letter = founder.letter(founder.one_of(library[edition][0]))
            told, first = letter, None
            for own in range(edition + 1, len(library)):
                row = None if told is None else dict(library[own][1][1]).get((told[0], len(told[1])))
                first = own if told is not None and row is None else first
                told = None if row is None else (row[0], by_hand(row[1], tuple(ABC[:len(told[1])]), told[1]))
                self.assertEqual(letter_led(library, letter, edition=edition, to=own), told)
                found = looked(library, letter, edition=edition, own=own)
                self.assertEqual(found, ("unseen", first) if told is None else ("led", told))
                counts[found[0]] = counts.get(found[0], 0) + 1
        self.assertGreater(min(counts.values()), 20)
        self.assertEqual(set(counts), {"led", "unseen"})


if __name__ == "__main__":
    unittest.main()
