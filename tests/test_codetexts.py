"""Point 16: code as a text."""

import unittest

from letterfolk.codetexts import shown_code
from making import CODE, CODE_TEXT, TOP, Maker, deep_sum

ONE = ("is", 1)


def shown_sum(amount):
    """How the sum is written, as the one of an end."""
    text = shown_code((("a", (), (("hit", (), ONE, (), ("end", amount)),), None),))
    head, _, words = text.rpartition("\nend ")
    assert head == "be a\narm hit : 1"
    return words


def shown_acts(*acts, last=("end", ONE)):
    """The lines of acts and of the next behind them."""
    return shown_code((("a", (), (("hit", (), ONE, acts, last),), None),)).split("\n")[2:]


class Shown(unittest.TestCase):
    def test_values(self):
        cases = (
            (7, "7"), (-3, "-3"), (0, "0"), (10 ** 6, "1000000"), ("red", "'red"), ("abcdefgh", "'abcdefgh"), (("at", 0, 12), "@0.12"),
            (("at", 12, 0), "@12.0"), (TOP, "9" * 200), (-TOP, "-" + "9" * 200), ("self", "'self"),
        )
        for value, text in cases:
            self.assertEqual(shown_sum(("is", value)), text)

    def test_sums(self):
        self.assertEqual(shown_sum(("of", "n")), "n")
        self.assertEqual(shown_sum(("self",)), "@")
        self.assertEqual(shown_sum(("plus", ("of", "n"), ("minus", ("is", 7), ("self",)))), "+ n - 7 @")
        self.assertEqual(shown_sum(("plus", ("minus", ("of", "n"), ("is", 7)), ("self",))), "+ - n 7 @")
        self.assertEqual(shown_sum(("less", ("of", "a"), ("of", "b"))), "< a b")
        self.assertEqual(shown_sum(("same", ("is", -1), ("is", "a"))), "= -1 'a")
        self.assertEqual(shown_sum(("minus", ("is", 1), ("is", -1))), "- 1 -1")

    def test_deep_sums(self):
        self.assertEqual(shown_sum(deep_sum(3)), "- 2 + - 0 x 1")
        self.assertEqual(shown_sum(deep_sum(30)).count(" "), 60)

    def test_acts(self):
        two = (("of", "p"), ("plus", ONE, ("of", "q")))
        cases = (
            (("send", ("of", "to"), "hit", two), "send to hit p + 1 q"),
            (("send", ("minus", ("of", "a"), ONE), "hit", ()), "send - a 1 hit"),
            (("make", "k", "a", two, "linked"), "make k a linked p + 1 q"),
            (("make", "k", "a", (), "free"), "make k a free"),
            (("make", "k", "a", (ONE,), "watched"), "make k a watched 1"),
            (("link", two[1]), "link + 1 q"), (("unlink", ("self",)), "unlink @"), (("watch", ("of", "k")), "watch k"),
            (("trap", ONE), "trap 1"), (("tell", ("is", "red")), "tell 'red"), (("name", "boss", two[1]), "name boss + 1 q"),
            (("ask", "k", "boss"), "ask k boss"),
        )
        for act, line in cases:
            if act[0] == "make":
                params = ("x", "y", "z")[:len(act[3])]
                text = shown_code((("a", params, (("hit", (), ONE, (act,), ("end", ONE)),), None),))
                self.assertEqual(text, "\n".join([" ".join(["be", "a", *params]), "arm hit : 1", line, "end 1"]))
            else:
                self.assertEqual(shown_acts(act), [line, "end 1"])

    def test_acts_stand_in_their_order(self):
        acts = (("tell", ("is", 3)), ("tell", ("is", 1)), ("ask", "k", "b"), ("tell", ("is", 2)))
        self.assertEqual(shown_acts(*acts), ["tell 3", "tell 1", "ask k b", "tell 2", "end 1"])

    def test_nexts(self):
        self.assertEqual(shown_acts(last=("go", "a", ())), ["go a"])
        self.assertEqual(shown_acts(last=("end", ("plus", ONE, ("self",)))), ["end + 1 @"])
        code = (("a", ("x", "y"), (), (ONE, (), ("go", "a", (("of", "y"), ("is", "x"))))),)
        self.assertEqual(shown_code(code), "be a x y\nlate 1\ngo a y 'x")

    def test_heads(self):
        code = (
            ("a", (), (), None),
            ("b", ("z", "y"), (("hit", ("q", "p"), ("less", ("of", "p"), ("of", "q")), (), ("end", ONE)),), None),
            ("c", (), (("bye", (), ("of", "z"), (), ("end", ONE)), ("bye", ("n",), ONE, (), ("end", ONE))), None),
            ("d", ("n",), (), (("plus", ("of", "n"), ONE), (), ("end", ("is", "old")))),
        )
        text = "be a\nbe b z y\narm hit q p : < p q\nend 1\nbe c\narm bye : z\nend 1\narm bye n : 1\nend 1\nbe d n\nlate + n 1\nend 'old"
        self.assertEqual(shown_code(code), text)

    def test_all_sorts(self):
        self.assertEqual(shown_code(code=CODE), CODE_TEXT)

    def test_made_up_ones(self):
        maker = Maker(15)
        for _ in range(60):
            code = maker.code()
            text = shown_code(code)
            self.assertIs(type(text), str)
            lines = text.split("\n")
            heads = [line.split(" ")[1:] for line in lines if line.startswith("be ")]
            self.assertEqual(heads, [[name, *params] for name, params, _, _ in code])
            self.assertNotIn("", [word for line in lines for word in line.split(" ")])
