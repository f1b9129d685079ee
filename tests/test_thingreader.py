"""Point 86: texts read as plain things and as steps."""

import unittest

from founding import ANY, LIBRARY, Founder, at, caught
from letterfolk.errors import FolkError, NoText, TextError
from letterfolk.thingreader import read_steps, read_thing
from letterfolk.thingtexts import shown_steps, shown_thing
from making import kinds_of

MOST = 10 ** 12 - 1
# What writes nothing at all: the whole text is one word, which can't stand.
NO_WORDS = (
    "", ".", "'", "'red", "A", "Red", "redD", "a1", "1a", "abcdefghi", "red-", "a.b", "--1", "+1", "++", "-+", "//", "_", "*", "a\nb", "1\n", "\n",
    "1234567890123", "-1234567890123", "9" * 100, "00", "01", "007", "-0", "-01", "-00", "1.5", "1,", "0x1", "(1", "1)", "((", "))", "()", "[", "]", "{",
    "@", "@.", "@0", "@0.", "@.0", "@0.0.0", "@0.0.", "@a.0", "@0.a", "@-1.0", "@0.-1", "@00.0", "@0.00", "@01.2", "@1.02", "@1234567890123.0",
    "@0.1234567890123", "@@0.0", "0.0", "a0.3", "10.3", "-0.3", "at.3", "'@0.0", "@+.0", "@0,0", "@ ", "|",
)


class ReadThing(unittest.TestCase):
    def refused(self, text, word, line=0):
        refused = caught(self, NoText, read_thing, text, line=line)
        self.assertEqual((refused.line, refused.word), (line, word), text)

    def test_one_word(self):
        for text, thing in (
                ("0", 0), ("7", 7), ("-7", -7), ("999999999999", MOST), ("-999999999999", -MOST), ("a", "a"), ("abcdefgh", "abcdefgh"), ("at", "at"),
                ("-", None), ("@0.0", at(0)), ("@12.345", at(345, 12)), ("@999999999999.999999999999", ("at", MOST, MOST))):
            self.assertEqual(read_thing(text), thing)
        self.assertIs(read_thing("+"), True)
        self.assertIs(read_thing("/"), False)
        self.assertIs(read_thing("-"), None)

    def test_tuples(self):
        for text, thing in (
                ("( )", ()), ("( 1 )", (1,)), ("( ( ) )", ((),)), ("( 1 - + / red @0.3 )", (1, None, True, False, "red", at(3))),
                ("( a ( b ( c ) d ) ( ) e )", ("a", ("b", ("c",), "d"), (), "e")), ("( ( ) ( ) )", ((), ())), ("( at 0 )", ("at", 0)),
                ("( at -1 0 )", ("at", -1, 0)), ("( at + 0 )", ("at", True, 0)), ("( rest ( ) 0 )", ("rest", (), 0))):
            self.assertEqual(read_thing(text), thing)
            self.assertEqual(shown_thing(read_thing(text)), text)

    def test_an_address_written_as_a_tuple_is_read_too(self):
        self.assertEqual(read_thing("( at 0 3 )"), at(3))
        self.assertEqual(read_thing("( ( at 0 3 ) @0.3 )"), (at(3), at(3)))

    def test_what_is_written_is_read_as_the_same(self):
        things = (
            0, -1, MOST, -MOST, "a", None, True, False, (), at(0), ((((),),),), (None,) * 50, ("plan", "one", 3, 4, (("rest", (), 0), None)),
            ("rest", (at(0), 1, "a"), 0), (True, 1, False, 0, None, -1), (("keeper", "all", 1, 2, (None,), (at(3, 2),), (0, 0)),))
        for thing in things:
            told = read_thing(shown_thing(thing))
            self.assertEqual((told, repr(told)), (thing, repr(thing)))
            self.assertEqual(kinds_of(told), kinds_of(thing))

    def test_made_up_ones(self):
        founder = Founder(86)
        for _ in range(300):
            thing = self.thing(founder)
            text = shown_thing(thing)
            self.assertEqual(repr(read_thing(text)), repr(thing))
            words = text.split(" ")
            k = founder.chance.randrange(len(words))
            self.refused(" ".join([*words[:k], "abcdefghi", *words[k + 1:]]), k)
            self.refused(" ".join([*words, "a"]), len(words))
            self.refused(" ".join([*words, ")"]), len(words))
            if len(words) > 1:
                self.refused(" ".join(words[:-1]), len(words) - 1)

    def thing(self, founder, within=0):
        sort = founder.chance.randrange(8)
        if sort < 3 and within < 5:
            return tuple([self.thing(founder, within + 1) for _ in range(founder.chance.randrange(5))])
        return founder.one_of((None, True, False, founder.value(), founder.value(), founder.address()))

    def test_very_deep_ones(self):
        many = 1900
        thing = read_thing("( " * many + "1" + " )" * many)
        for _ in range(many):
            self.assertEqual(len(thing), 1)
            thing, = thing
        self.assertEqual(thing, 1)
        deep = read_thing("( " * many + ") " * (many - 1) + ")")
        self.assertEqual(shown_thing(deep), "( " * many + ") " * (many - 1) + ")")
        self.refused("( " * many + "1", many + 1)

    def test_words_that_write_nothing(self):
        for word in NO_WORDS:
            if " " not in word:
                self.refused(word, 0)
                self.refused("( " + word + " )", 1)
                self.refused("( 1 ( ) " + word, 4)

    def test_void_words(self):
        for text, word in ((" 1", 0), ("1 ", 1), ("  1", 0), ("1  ", 1), (" ", 0), ("   ", 0), ("(  )", 1), ("( ) ", 2), ("( 1  2 )", 2), (" ( )", 0), ("( ", 1)):
            self.refused(text, word)

    def test_brackets(self):
        for text, word in (
                ("(", 1), (")", 0), ("( (", 2), ("( ( )", 3), ("( ) )", 2), ("( ) (", 2), (") (", 0), ("1 )", 1), ("( 1 ) )", 3), ("( 1 2 3", 4),
                ("( 1 ( 2 )", 5), ("( a ) b", 3), ("1 2", 1), ("a b", 1), ("- -", 1), ("- 5", 1), ("@0.0 1", 1), ("act 0 3", 1), ("1 abcdefghi", 1)):
            self.refused(text, word)

    def test_the_line_is_as_handed_in(self):
        for line in (0, 1, 7, 10 ** 20):
            self.refused("( x (", 3, line)
        refused = caught(self, NoText, read_thing, ")")
        self.assertEqual((refused.line, refused.word), (0, 0))
        self.assertEqual(read_thing(line=3, text="( 1 )"), (1,))
        with self.assertRaises(TypeError):
            read_thing("1", 3)
        for family in (TextError, FolkError, ValueError):
            with self.assertRaises(family):
                read_thing("")


class ReadSteps(unittest.TestCase):
    STEPS = (("act", 0, 3), ("come", 0), ("again", 12), ("tick", 2), ("part", 0, 1), ("meet", 1, 0), ("fall", 0), ("load", 1, 5))

    def refused(self, text, line, word):
        refused = caught(self, NoText, read_steps, text)
        self.assertEqual((refused.line, refused.word), (line, word), text)

    def test_none(self):
        self.assertEqual(read_steps(""), ())
        self.assertIs(type(read_steps("")), tuple)

    def test_each_step(self):
        texts = ("act 0 3", "come 0", "again 12", "tick 2", "part 0 1", "meet 1 0", "fall 0", "load 1 5")
        for text, step in zip(texts, self.STEPS):
            self.assertEqual(read_steps(text), (step,))
        self.assertEqual(read_steps("\n".join(texts)), self.STEPS)
        self.assertEqual(read_steps(shown_steps(self.STEPS)), self.STEPS)
        self.assertEqual(read_steps("act 0 999999999999"), (("act", 0, MOST),))
        # By kind alone: whether it can be done is another thing.
        self.assertEqual(read_steps("part 7 7\nload 0 999"), (("part", 7, 7), ("load", 0, 999)))

    def test_words_that_cannot_stand(self):
        for word in NO_WORDS:
            if " " not in word and "\n" not in word and word != "":
                self.refused(word, 0, 0)
                self.refused("act 0 " + word, 0, 2)
                self.refused("tick 0\nact 0 3\nact " + word + " 3", 2, 1)

    def test_void_words_and_lines(self):
        for text, line, word in (
                (" ", 0, 0), ("\n", 0, 0), (" act 0 3", 0, 0), ("act 0 3 ", 0, 3), ("act  0 3", 0, 1), ("act 0 3\n", 1, 0), ("\nact 0 3", 0, 0),
                ("act 0 3\n\ntick 0", 1, 0), ("tick 0\ntick 0 \ntick 0", 1, 2)):
            self.refused(text, line, word)

    def test_brackets(self):
        for text, word in ((")", 0), ("act 0 3 )", 3), ("act ) 0", 1), ("(", 1), ("act 0 (", 3), ("act ( 0 3", 4), ("act ( 0 ) )", 4), ("( act 0 3 ) )", 5)):
            self.refused(text, 0, word)
            self.refused("tick 1\n" + text, 1, word)

    def test_lines_that_can_be_read_but_are_no_steps(self):
        for text in (
                "act", "act 0", "act 0 3 4", "tick", "tick 0 0", "come", "come 0 0", "again", "fall", "load 0", "part 0", "meet 0 1 2", "tick -1", "tick +",
                "tick /", "tick -", "tick red", "tick @0.0", "tick ( )", "tick ( 0 )", "( tick 0 )", "( )", "0", "1 2", "-", "jump 0", "tic 0", "red", "+",
                "act 0 -3", "load 0 -", "@0.0 0", "0 tick", "come @0.0 @1.0", "come ( house 0 ) ( house 1 )"):
            self.refused(text, 0, 0)
            self.refused("tick 0\n" + text + "\n)", 1, 0)

    def test_the_first_line_that_writes_none(self):
        self.refused("tick 0\ntick\nabcdefghi", 1, 0)
        self.refused("tick 0\nabcdefghi\ntick", 1, 0)
        self.refused("tick 0\nact 0 3\ntick 0 )\n(", 2, 2)

    def test_made_up_ones(self):
        founder = Founder(87)
        for _ in range(100):
            steps = tuple([founder.one_of(self.STEPS) for _ in range(founder.chance.randrange(20))])
            self.assertEqual(read_steps(text=shown_steps(steps)), steps)
            self.assertEqual(kinds_of(read_steps(shown_steps(steps))) - {int, str}, {tuple})

    def test_texts_of_things_and_code(self):
        for thing in ANY:
            if isinstance(thing, str) and thing != "":
                with self.assertRaises(NoText):
                    read_steps(thing)
        with self.assertRaises(NoText):
            read_thing(repr(LIBRARY)[:4000])


if __name__ == "__main__":
    unittest.main()
