"""Points 87 and 88: a desk."""

import unittest

from founding import at, caught
from housing import VOID
from letterfolk.codereader import read_code
from letterfolk.desk import Desk
from letterfolk.errors import FolkError, NoBack, NoFolk, NoLine, NoStep, RunError, TextError
from letterfolk.landsteps import ready_steps
from letterfolk.thingreader import read_thing
from letterfolk.thingtexts import shown_steps, shown_thing
from letterfolk.village import Village
from living import Lively
from letterfolk.codetexts import shown_code

LINES = ("be do", "late 1", "send @1.0 hit 1", "go it", "be it", "arm hit k : 1", "tell k", "go it")
CODE = " | ".join(LINES)
LIBRARY = ((read_code("\n".join(LINES)), VOID),)
ROOTS = (("do", (), 0), ("it", (), 0))
OPEN = f"open ( ( do ( ) 0 ) ( it ( ) 0 ) ) | {CODE}"
DONE = "do tick 0 | act 0 0 | come 0"
STEPS = (("tick", 0), ("act", 0, 0), ("come", 0))
SEEN = ("steps", "quiet", "ready", "state @0.0", "state @1.0", "plain")


def opened(*rows):
    """A desk that was told to open, then these rows."""
    desk = Desk()
    for row in (OPEN, *rows):
        desk.say(row)
    return desk


class Asking(unittest.TestCase):
    def no_line(self, desk, row):
        counts = desk.counts()
        error = caught(self, NoLine, desk.say, row)
        self.assertIs(error.line, row)
        self.assertEqual(desk.counts(), (counts[0] + 1, counts[1] + 1))

    def seen(self, desk):
        """All that it tells."""
        return [desk.say(row) for row in SEEN]


class Opened(Asking):
    def test_ok(self):
        desk = Desk()
        self.assertEqual(desk.say(OPEN), "ok")
        self.assertEqual(self.seen(desk), ["0", "yes", "-", "( do ( ) 0 )", "( it ( ) 0 )", "0"])
        self.assertEqual(Desk().say(row=OPEN), "ok")

    def test_roots(self):
        for text, answer in (
                ("( - )", None), ("( - - )", None), ("( ( it ( ) 0 ) )", "( it ( ) 0 )"), ("( ( plan one 3 5 ( ) ) )", "( keeper one 3 5 ( ) ( ) ( ) )"),
                ("( ( plan all 0 1 ( ( it ( ) 0 ) - ) ) )", "( keeper all 0 1 ( ( it ( ) 0 ) - ) ( @0.1 - ) ( ) )"),
                ("( ( plan rest 9 9 ( ( plan one 1 1 ( - ) ) ) ) )", "( keeper rest 9 9 ( ( plan one 1 1 ( - ) ) ) ( @0.1 ) ( ) )")):
            desk = Desk()
            self.assertEqual(desk.say(f"open {text} | {CODE}"), "ok")
            if answer is None:
                self.assertEqual(caught(self, NoFolk, desk.say, "state @0.0").address, at(0))
            else:
                self.assertEqual(desk.say("state @0.0"), answer)

    def test_roots_of_no_form(self):
        for text in (
                "-", "+", "/", "7", "-7", "do", "( )", "@0.1", "( at 0 1 )", "( + )", "( / )", "( 7 )", "( do )", "( ( do ( ) 1 ) )", "( ( do ( ) + ) )", "( ( do ( 1 ) 0 ) )",
                "( ( none ( ) 0 ) )", "( ( do ( ) 0 ) ( do ( ) 1 ) )", "( ( do ( ) 0 ) ( ) )", "( ( do ( ) ) )", "( ( do ( ) 0 0 ) )", "do ( ) 0", "( do ( ) 0 )", "( @0.1 )",
                "( ( keeper one 3 5 ( ) ( ) ( ) ) )", "( ( plan one 3 0 ( ) ) )", "( ( plan two 3 5 ( ) ) )", "( ( plan one 3 5 ( ( do ( ) 1 ) ) ) )", "( ( plan one 3 5 - ) )",
                "( ( plan one + 5 ( ) ) )", "( ( keeper one 3 5 ( - ) ( - ) ( ) ) )", "( - ) ( - )", "( -", "- )", "( - ) )", "( -0 )", "( ( do ( ) 00 ) )", "( ( do ( ) 1234567890123 ) )", "( | )"):
            self.no_line(Desk(), f"open {text} | {CODE}")

    def test_lines_that_are_not_read(self):
        for lines in (
                ("be",), ("be do",) * 2, ("be do", "late 1"), ("be do", "late 1", "go no"), ("be do", "late 1", "go it"), ("late 1", "go do"), (*LINES, "be it"), (*LINES[4:], *LINES[:4]),
                LINES[:-1], (*LINES, "go it"), ("be do", "late 1", "go do 1"), ("be do", "late 01", "go do"), ("be a b b",), ("be abcdefghi",), ("-",), ("( - )",), (*LINES, "be"), ("+",)):
            self.no_line(Desk(), " | ".join(("open ( - )", *lines)))
        self.assertEqual(Desk().say("open ( - ) | be do"), "ok")

    def test_rows_that_lack_something(self):
        for row in ("open", "open ( - )", "open ( - ) |", "open |", "open | be do", "open | | be do", "open be do", "open ( - ) be do", "open ( - )| be do", "open ( - ) |be do", "open ( - ) | be do |",
                    "open ( - ) || be do", "open ( - ) | | be do", "open ( - ) | be do | | be it", "opened ( - ) | be do", "Open ( - ) | be do", "open- | be do", "( - ) | be do"):
            self.no_line(Desk(), row)

    def test_opened_anew(self):
        desk = opened(DONE)
        self.assertEqual(desk.say("steps"), "3")
        self.assertEqual(desk.say("open ( - ) | be do"), "ok")
        self.assertEqual((desk.say("steps"), desk.say("quiet"), desk.say("plain")), ("0", "yes", "0"))
        self.assertEqual(caught(self, NoFolk, desk.say, "state @0.0").address, at(0))

    def test_a_refused_one_leaves_the_village(self):
        desk = opened(DONE)
        before = self.seen(desk)
        for row in (f"open ( ) | {CODE}", "open ( - ) | be", "open", f"open ( ( none ( ) 0 ) ) | {CODE}", "open  ( - ) | be do"):
            self.no_line(desk, row)
            self.assertEqual(self.seen(desk), before)

    def test_code_has_its_own_lines(self):
        # One blank more or less, a line end, a bar without blanks: no form.
        for row in (OPEN.replace(" | ", "\n"), OPEN.replace(" | ", "|"), OPEN.replace(" | ", " |\n"), OPEN + "\n", OPEN.replace("late 1", "late  1"), OPEN.replace("late 1", "late\n1")):
            self.no_line(Desk(), row)


class Nobody(Asking):
    def test_each_but_open_where_there_is_no_village(self):
        desk = Desk()
        for row in ("do tick 0", "back", "back 1", "steps", "quiet", "ready", "state @0.0", "plain", "", " ", "no", DONE):
            self.no_line(desk, row)
        self.no_line(desk, "open ( - ) | be")
        self.no_line(desk, "steps")
        self.assertEqual(desk.say(OPEN), "ok")
        self.assertEqual(desk.say("steps"), "0")


class NoForm(Asking):
    def setUp(self):
        self.desk = opened(DONE)
        self.before = self.seen(self.desk)

    def tearDown(self):
        self.assertEqual(self.seen(self.desk), self.before)

    def test_words(self):
        for row in (
                "", " ", "  ", "step", "Steps", "STEPS", "undo", "act 0 0", "tick 0", "state", "do", "?", "help", "|", "| steps", "steps |", "steps | steps", "quiet | ready", "then 0", "land", "log",
                "trace", "paper", "fates", "losses", "story @0.0", "counts", "run tick 0", "steps\n", "\nsteps", "steps\nsteps", "a" * 4000):
            self.no_line(self.desk, row)

    def test_blanks(self):
        for row in ("steps", "quiet", "ready", "back", "back 1", "plain", "state @0.0", "do tick 0", "do tick 0 | tick 1"):
            for other in (" " + row, row + " ", "  " + row, row + "  ", row + "\n", row + " -", row + " |", row + " | ", "| " + row):
                self.no_line(self.desk, other)
            if " " in row:
                self.no_line(self.desk, row.replace(" ", "  ", 1))

    def test_words_behind(self):
        for row in ("steps 0", "quiet 1", "ready -", "plain 3", "steps steps", "back 1 1", "back 1 | 1", "state @0.0 @1.0", "state @0.0 | @1.0", "back back", "back @0.0"):
            self.no_line(self.desk, row)

    def test_numbers(self):
        for text in ("-1", "-0", "00", "01", "+1", "1.0", "1234567890123", "1" * 4000, "-", "+", "/", "a", "'1", "( )", "@0.1", "0x1", "1_0"):
            self.no_line(self.desk, f"back {text}")

    def test_addresses(self):
        for text in (
                "0.0", "@", "@0", "@0.", "@.0", "@0.0.0", "@00.0", "@0.00", "@-1.0", "@0.-1", "@0.1234567890123", "@1234567890123.0", "@a.0", "@0,0", "@@0.0", "'a", "at", "( at 0 0 )", "-", "0", "@0 0",
                "@+.0", "@ 0.0", "10.0", "a0.0"):
            self.no_line(self.desk, f"state {text}")

    def test_steps(self):
        for text in (
                "-", "+", "tick", "tick -1", "tick -", "tick +", "tick 00", "tick 0 0", "tock 0", "( tick 0 )", "tick 0 |", "| tick 0", "tick 0 | | tick 0", "tick 0| tick 0", "tick 0 |tick 0", "tick 0|tick 0",
                "tick 0 tick 0", "tick 0 || tick 0", "tick @0.0", "tick 1234567890123", "come @0.0 @1.0", "act 0", "act 0 0 0", "tick 0 | no", "no | tick 0", "tick 0\ntick 0", "tick ( 0 )", "tick 0 )",
                "( tick 0", "given 0", "load 0", "part 0", "meet 0 1 2", "fall", "again", "tick 0 | tick 1 | act"):
            self.no_line(self.desk, f"do {text}")

    def test_families(self):
        for family in (TextError, FolkError, ValueError):
            with self.assertRaises(family):
                self.desk.say("no")


class Done(Asking):
    def test_how_many(self):
        desk = opened()
        for row, many in (("do tick 0", 1), ("do tick 0 | tick 1", 2), ("do act 0 0", 1), ("do come 0 | again 0 | act 1 0 | part 0 1 | meet 0 1 | fall 0", 6)):
            self.assertEqual(desk.say(row), str(many))
        self.assertEqual(desk.say("steps"), "10")

    def test_what_cannot_be_done(self):
        for text, word in (("tick 2", "house"), ("part 1 1", "house"), ("act 1 0", "act"), ("act 0 999999999999", "act"), ("come 0", "packet"), ("again 1", "packet"), ("meet 0 1", "linked"), ("load 0 1", "edition")):
            desk = opened(DONE)
            desk.say("do act 1 0")
            before = self.seen(desk)
            self.assertEqual(caught(self, NoStep, desk.say, f"do {text}").word, word)
            self.assertEqual(caught(self, NoStep, desk.say, f"do {text} | tick 0").word, word)
            self.assertEqual(self.seen(desk), before)
            # Those ahead stand, nothing behind.
            self.assertEqual(caught(self, NoStep, desk.say, f"do tick 0 | tick 1 | {text} | tick 0").word, word)
            self.assertEqual((desk.say("steps"), desk.say("back 2")), ("6", "tick 1 | tick 0"))

    def test_no_form_goes_ahead_of_all(self):
        desk = opened()
        self.no_line(desk, "do tick 0 | tick 9 | tock 0")
        self.assertEqual(desk.say("steps"), "0")

    def test_as_a_village_does_at_most_two_hundred_at_once(self):
        desk = opened()
        self.assertEqual(desk.say("do " + " | ".join(["tick 1"] * 250)), "200")
        self.assertEqual((desk.say("steps"), desk.say("plain")), ("200", "200"))
        self.assertEqual(desk.say("do " + " | ".join(["tick 1"] * 100)), "100")
        self.assertEqual((desk.say("steps"), desk.say("plain")), ("300", "300"))

    def test_back(self):
        desk = opened(DONE)
        self.assertEqual(desk.say("back"), "come 0")
        self.assertEqual(desk.say("back 2"), "act 0 0 | tick 0")
        self.assertEqual(self.seen(desk), self.seen(opened()))
        desk = opened(DONE)
        self.assertEqual(desk.say("back 3"), "come 0 | act 0 0 | tick 0")
        self.assertEqual(caught(self, NoBack, desk.say, "back").times, 1)

    def test_not_so_far_back(self):
        desk = opened(DONE)
        for k in (0, 4, 10 ** 11, 10 ** 12 - 1):
            error = caught(self, NoBack, desk.say, f"back {k}")
            self.assertEqual((error.times, type(error.times)), (k, int))
            self.assertEqual(desk.say("steps"), "3")

    def test_quiet_and_ready(self):
        desk = opened()
        for row, ready in (("tick 0", "act 0 0"), ("act 0 0", "come 0"), ("come 0", "act 1 0"), ("act 1 0", "-"), ("tick 1", "-")):
            desk.say(f"do {row}")
            self.assertEqual((desk.say("ready"), desk.say("quiet")), (ready, "yes" if ready == "-" else "no"))
        desk = opened("do tick 0 | act 0 0 | come 0")
        self.assertEqual(desk.say("ready"), "act 1 0")
        desk = Desk()
        desk.say(f"open ( ( plan one 3 5 ( ( do ( ) 0 ) ( do ( ) 0 ) ) ) ( do ( ) 0 ) ) | {CODE}")
        desk.say("do tick 0 | tick 1 | act 0 2")
        self.assertEqual(desk.say("ready"), "act 0 1 | act 1 0 | come 0")

    def test_state(self):
        desk = opened(DONE)
        self.assertEqual((desk.say("state @0.0"), desk.say("state @1.0")), ("( it ( ) 0 )", "( it ( ) 0 )"))
        for text, address in (("@0.1", at(1)), ("@2.0", at(0, 2)), ("@0.999999999999", at(10 ** 12 - 1)), ("@999999999999.0", at(0, 10 ** 12 - 1)), ("@1.1", at(1, 1))):
            error = caught(self, NoFolk, desk.say, f"state {text}")
            self.assertEqual(error.address, address)
            self.assertIs(type(error.address), tuple)
        for family in (RunError, FolkError, ValueError):
            with self.assertRaises(family):
                desk.say("state @9.9")

    def test_states_of_all_values(self):
        desk = Desk()
        lines = "be a b c d e | arm hit : 1 | go a b c d e"
        self.assertEqual(desk.say(f"open ( ( a ( -7 red @3.12 0 ) 0 ) ) | {lines}"), "ok")
        self.assertEqual(desk.say("state @0.0"), "( a ( -7 red @3.12 0 ) 0 )")

    def test_a_keeper(self):
        desk = Desk()
        desk.say("open ( ( plan one 2 5 ( ( a ( ) 0 ) ) ) ) | be a | late 1 | end 'odd")
        desk.say("do tick 0 | act 0 1")
        self.assertEqual(desk.say("state @0.0"), "( keeper one 2 5 ( ( a ( ) 0 ) ) ( @0.2 ) ( 1 ) )")
        self.assertEqual(caught(self, NoFolk, desk.say, "state @0.1").address, at(1))

    def test_plain(self):
        desk = opened()
        for row, many in (("tick 0", 1), ("act 0 0", 2), ("come 0", 3), ("again 0", 3), ("act 1 0", 4), ("part 0 1", 5), ("again 0", 5)):
            desk.say(f"do {row}")
            self.assertEqual(desk.say("plain"), str(many))
        self.assertEqual((desk.say("back 3"), desk.say("plain")), ("again 0 | part 0 1 | act 1 0", "3"))

    def test_counts(self):
        desk = Desk()
        self.assertEqual(desk.counts(), (0, 0))
        rows = ((OPEN, None), (DONE, None), ("steps", None), ("no", NoLine), ("do tick 9", NoStep), ("back 9", NoBack), ("state @9.9", NoFolk), ("ready", None), ("open", NoLine), ("", NoLine))
        for k, (row, error) in enumerate(rows):
            if error is None:
                desk.say(row)
            else:
                caught(self, error, desk.say, row)
            self.assertEqual(desk.counts(), (k + 1, k + 1))
        self.assertIs(type(desk.counts()), tuple)
        self.assertEqual(Desk().counts(), (0, 0))

    def test_answers_are_texts(self):
        desk = opened(DONE)
        for row in (*SEEN, "back", "do tick 0", OPEN):
            self.assertIs(type(desk.say(row)), str)
        for name in ("say", "counts"):
            self.assertIn(name, vars(Desk))


class MadeUp(unittest.TestCase):
    def test_as_a_village(self):
        """What a desk tells is what a village tells, written."""
        maker = Lively(87)
        for seed in range(15):
            maker.houses = 1 + seed % 3
            code = maker.code()
            library = ((code, VOID),)
            roots = maker.roots(library)
            village, desk = Village(library, roots=roots), Desk()
            lines = " | ".join(shown_code(code).split("\n"))
            self.assertEqual(desk.say(f"open {shown_thing(roots)} | {lines}"), "ok")
            steps, _, _ = maker.steps(village.land(), 40)
            for thing in steps:
                village.step(thing)
                self.assertEqual(desk.say(f"do {shown_steps((thing,))}"), "1")
                self.assertEqual(desk.say("ready"), " | ".join(shown_steps(ready_steps(village.land())).split("\n")) or "-")
            for h, house in enumerate(village.land()[2]):
                for n, life in house[4]:
                    self.assertEqual(read_thing(desk.say(f"state @{h}.{n}")), life[0])
            self.assertEqual(desk.say("plain"), str(sum([len(row) for row in village.paper()])))
            if steps:
                self.assertEqual(desk.say(f"back {len(steps)}").split(" | "), shown_steps(steps[::-1]).split("\n"))


if __name__ == "__main__":
    unittest.main()
