"""Points 3 and 10: words, addresses, values and letters, of any thing."""

import unittest

from letterfolk.kinds import is_address, is_letter, is_value, is_word
from making import NOTHINGS, TOP, nested, nested_list, spoiled

WORDS = ("a", "z", "ab", "abcdefgh", "zzzzzzzz", "at", "self", "none")
NO_WORDS = (
    "", "abcdefghi", "a" * 4000, "A", "Ab", "aB", "a1", "1", "0", " ", "a ", " a", "a b", "a_b", "a-b", "'a", "@", "`", "{",
    "a\n", "\na", "~", True, False, None, 0, 1, ("a",), ["a"], ("a", "b"), [],
)
ADDRESSES = (("at", 0, 0), ("at", 0, 12), ("at", 7, 1), ("at", TOP, TOP))
NO_ADDRESSES = (
    ("at", -1, 0), ("at", 0, -1), ("at", True, 0), ("at", 0, False), ("at", 1, True), ["at", 0, 0], ("at", 0), ("at",), (),
    ("at", 0, 0, 0), ("to", 0, 0), ("at", "0", 0), ("at", 0, "a"), ("at", None, 0), ("at", 0, None), (0, 0), (0, 0, "at"),
    "at", "at.", ("at", (0,), 0), ("at", 0, [0]), (True, 0, 0), (["at"], 0, 0), ("At", 0, 0), ("at", -TOP, 0),
)
NUMBERS = (0, 1, -1, 7, -7, 10 ** 6, -10 ** 6, 10 ** 6 + 1, TOP, -TOP)
LETTERS = (
    ("hit", ()), ("a", (1,)), ("abcdefgh", (1, "red", ("at", 0, 12), -3)), ("at", (0, 0)), ("at", ("at", "at")),
    ("hit", (TOP, -TOP)), ("hit", tuple(range(-50, 50))), ("hit", (("at", 0, 0),) * 200),
)
NO_LETTERS = (
    ("hit",), ("hit", (), ()), ("hit", None), ("hit", 1), ("hit", "red"), ("hit", [1]), ["hit", (1,)], ("", ()), (1, ()),
    ("abcdefghi", ()), ("Hit", ()), (None, ()), (True, ()), ("hit", (True,)), ("hit", (False,)), ("hit", (None,)),
    ("hit", ((),)), ("hit", (1, True)), ("hit", (("at", 0, -1),)), ("hit", (["at", 0, 1],)), ("hit", ("Red",)),
    ("hit", ("abcdefghi",)), (("hit",), ()), ((), "hit"), (), ("hit", (("hit", ()),)),
)


class Kinds(unittest.TestCase):
    def check(self, test, good, bad):
        for thing in good:
            self.assertIs(test(thing), True, thing)
        for thing in bad:
            self.assertIs(test(thing), False, thing)

    def test_words(self):
        self.check(is_word, WORDS, (*NO_WORDS, *NUMBERS, *ADDRESSES, *LETTERS))

    def test_every_sign_of_a_word(self):
        for code in range(32, 127):
            small = chr(code) in "abcdefghijklmnopqrstuvwxyz"
            self.assertIs(is_word(chr(code)), small)
            self.assertIs(is_word("ab" + chr(code)), small)
            self.assertIs(is_word(chr(code) + "ab"), small)

    def test_every_length_of_a_word(self):
        for many in range(30):
            self.assertIs(is_word("q" * many), 1 <= many <= 8)

    def test_addresses(self):
        self.check(is_address, ADDRESSES, (*NO_ADDRESSES, *WORDS, *NUMBERS, *LETTERS))

    def test_values(self):
        self.check(is_value, (*NUMBERS, *WORDS, *ADDRESSES), (True, False, None, *NO_ADDRESSES[:10], *LETTERS))
        for thing in NO_WORDS:
            self.assertIs(is_value(thing), type(thing) is int, thing)

    def test_letters(self):
        self.check(is_letter, LETTERS, (*NO_LETTERS, *NUMBERS, *WORDS, *ADDRESSES))

    def test_spoiled_ones(self):
        for thing in spoiled(("at", 0, 12)):
            self.assertIs(is_address(thing), False, thing)
        for thing in spoiled(("hit", (1, "red", ("at", 0, 12)))):
            self.assertIs(is_letter(thing), False, thing)

    def test_any_other_thing_is_none_of_them(self):
        for test in (is_word, is_address, is_value, is_letter):
            self.check(test, (), NOTHINGS)

    def test_things_within_one_another(self):
        for leaf in (0, "a", ("at", 0, 0), ("hit", ())):
            for deep in (nested(leaf, 37), nested_list(leaf, 37)):
                for test in (is_word, is_address, is_value, is_letter):
                    self.assertIs(test(deep), False)
                self.assertIs(is_letter(("hit", (1, deep))), False)
                self.assertIs(is_address(("at", 0, deep)), False)
                self.assertIs(is_address((deep, 0, 0)), False)

    def test_lists_are_not_changed(self):
        thing = ["at", 0, [1]]
        for test in (is_word, is_address, is_value, is_letter):
            test(thing)
        self.assertEqual(thing, ["at", 0, [1]])

    def test_by_name(self):
        self.assertIs(is_word(thing="a"), True)
        self.assertIs(is_address(thing=("at", 0, 0)), True)
        self.assertIs(is_value(thing=-1), True)
        self.assertIs(is_letter(thing=("a", ())), True)
