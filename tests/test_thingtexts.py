"""Point 85: plain things and steps as texts."""

import unittest

from founding import Founder, at
from letterfolk.thingtexts import shown_steps, shown_thing
from making import TOP, nested


class ShownThing(unittest.TestCase):
    def check(self, thing, text):
        told = shown_thing(thing)
        self.assertEqual(told, text)
        self.assertIs(type(told), str)

    def test_numbers(self):
        for number in (0, 1, 7, 10, 100, 1000000, 10 ** 59, 10 ** 60 - 1, 10 ** 60, 10 ** 60 + 7, 10 ** 120, TOP, 10 ** 199):
            self.check(number, str(number))
            self.check((number,), f"( {number} )")
            if number:
                self.check(-number, "-" + str(number))
                self.check((-number, 0), f"( -{number} 0 )")

    def test_numbers_of_any_greatness(self):
        for many in (61, 4299, 4300, 4301, 9000):
            self.check(10 ** many, "1" + "0" * many)
            self.check(10 ** many - 1, "9" * many)
            self.check(-(10 ** many), "-1" + "0" * many)
            self.check(10 ** many + 5, "1" + "0" * (many - 1) + "5")
        self.check(at(10 ** 5000), "@0.1" + "0" * 5000)

    def test_words(self):
        for word in ("a", "red", "abcdefgh", "at", "plan", "keeper"):
            self.check(word, word)

    def test_none_true_false(self):
        self.check(None, "-")
        self.check(True, "+")
        self.check(False, "/")
        self.check((None, True, False), "( - + / )")
        self.check((1, True, 0, False), "( 1 + 0 / )")

    def test_addresses(self):
        self.check(at(0), "@0.0")
        self.check(("at", 12, 345), "@12.345")
        self.check(("at", 0, TOP), f"@0.{TOP}")
        self.check(("at", TOP, 0), f"@{TOP}.0")
        self.check((at(1), ("hit", (at(2, 1), 3))), "( @0.1 ( hit ( @1.2 3 ) ) )")

    def test_what_is_nearly_an_address(self):
        self.check(("at",), "( at )")
        self.check(("at", 0), "( at 0 )")
        self.check(("at", 0, 1, 2), "( at 0 1 2 )")
        self.check(("at", -1, 0), "( at -1 0 )")
        self.check(("at", 0, -1), "( at 0 -1 )")
        self.check(("at", True, 0), "( at + 0 )")
        self.check(("at", 0, True), "( at 0 + )")
        self.check(("at", False, 3), "( at / 3 )")
        self.check(("at", None, 3), "( at - 3 )")
        self.check(("at", "a", 3), "( at a 3 )")
        self.check(("at", 0, (1,)), "( at 0 ( 1 ) )")
        self.check(("as", 0, 3), "( as 0 3 )")
        self.check((0, "at", 3), "( 0 at 3 )")
        self.check(("at", "at", 3), "( at at 3 )")

    def test_tuples(self):
        self.check((), "( )")
        self.check(((),), "( ( ) )")
        self.check(((), ()), "( ( ) ( ) )")
        self.check((1,), "( 1 )")
        self.check(("a", (1, (2, ()), "b"), -3), "( a ( 1 ( 2 ( ) ) b ) -3 )")
        self.check(nested((), 39), "( " * 40 + ")" + " )" * 39)
        self.check(nested("a", 40), "( " * 40 + "a" + " )" * 40)

    def test_what_a_land_has(self):
        self.check(("plan", "one", 1, 2, (("rest", (), 0), None)), "( plan one 1 2 ( ( rest ( ) 0 ) - ) )")
        self.check(("keeper", "all", 0, 9, (None,), (at(4, 2),), (3, 3)), "( keeper all 0 9 ( - ) ( @2.4 ) ( 3 3 ) )")
        self.check((0, at(1), ("house", 2), 7, ("word", "boss", at(3), True)), "( 0 @0.1 ( house 2 ) 7 ( word boss @0.3 + ) )")

    def test_words_can_be_told_apart(self):
        """Each text is that of one thing alone."""
        founder = Founder(85)
        seen = {}
        for _ in range(3000):
            thing = self.made_up(founder)
            text = shown_thing(thing)
            self.assertEqual(text, " ".join(text.split()))
            self.assertEqual(seen.setdefault(text, repr(thing)), repr(thing))

    def made_up(self, founder, within=0):
        sort = founder.chance.randrange(8)
        if sort < 2 and within < 4:
            return tuple([self.made_up(founder, within + 1) for _ in range(founder.chance.randrange(4))])
        return (None, True, False, founder.word(), founder.value(), founder.value(), ("at", founder.one_of((0, True)), founder.chance.randrange(-1, 2)), 1)[sort]

    def test_by_name(self):
        self.assertEqual(shown_thing(thing=(1, None)), "( 1 - )")


class ShownSteps(unittest.TestCase):
    def test_none(self):
        self.assertEqual(shown_steps(()), "")

    def test_each_step(self):
        steps = (("act", 0, 3), ("come", 0), ("again", 12), ("tick", 1), ("part", 0, 2), ("meet", 2, 0), ("fall", 1), ("load", 0, 5))
        text = "act 0 3\ncome 0\nagain 12\ntick 1\npart 0 2\nmeet 2 0\nfall 1\nload 0 5"
        self.assertEqual(shown_steps(steps), text)
        self.assertEqual(shown_steps(steps=steps), text)
        for step, line in zip(steps, text.split("\n")):
            self.assertEqual(shown_steps((step,)), line)

    def test_great_numbers(self):
        self.assertEqual(shown_steps((("come", TOP), ("tick", 10 ** 5000))), f"come {TOP}\ntick 1" + "0" * 5000)

    def test_kinds(self):
        self.assertIs(type(shown_steps((("tick", 0),))), str)
        self.assertIs(type(shown_steps(())), str)


if __name__ == "__main__":
    unittest.main()
