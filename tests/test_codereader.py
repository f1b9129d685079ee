"""Point 17: texts read as code, and what is told of those that write none."""

import random
import unittest

from letterfolk.codereader import read_code
from letterfolk.codetexts import shown_code
from letterfolk.errors import FolkError, NoCode, NoText
from letterfolk.looks import is_code
from making import CODE, CODE_TEXT, Maker, deep_sum, kinds_of

ONE = ("is", 1)
ARM = "be a\narm hit : 1\n"


def with_end(amount):
    """Code in which this sum stands behind end."""
    return (("a", (), (("hit", (), ONE, (), ("end", amount)),), None),)


class Reading(unittest.TestCase):
    def test_all_sorts(self):
        self.assertEqual(read_code(CODE_TEXT), CODE)
        self.assertEqual(read_code(text=CODE_TEXT), CODE)

    def test_what_is_written_is_read_as_the_same(self):
        maker = Maker(16)
        for _ in range(200):
            code = maker.code()
            text = shown_code(code)
            told = read_code(text)
            self.assertEqual(told, code)
            self.assertEqual(shown_code(told), text)

    def test_kinds(self):
        self.assertEqual(kinds_of(read_code(CODE_TEXT)), {tuple, str, int})
        self.assertEqual(kinds_of(read_code("be a")), {tuple, str, type(None)})

    def test_least_texts(self):
        self.assertEqual(read_code("be a"), (("a", (), (), None),))
        self.assertEqual(read_code("be a b\nbe b"), (("a", ("b",), (), None), ("b", (), (), None)))
        self.assertEqual(read_code(ARM + "end 1"), with_end(ONE))
        self.assertEqual(read_code("be a\nlate 1\nend 1"), (("a", (), (), (ONE, (), ("end", ONE))),))

    def test_words_that_also_begin_lines(self):
        text = "be arm be late\narm end be go : late\nask go be\nname send go\ngo arm be arm"
        code = (
            ("arm", ("be", "late"),
             (("end", ("be", "go"), ("of", "late"), (("ask", "go", "be"), ("name", "send", ("of", "go"))),
               ("go", "arm", (("of", "be"), ("of", "arm")))),), None),
        )
        self.assertEqual(read_code(text), code)

    def test_a_name_may_be_among_the_params(self):
        self.assertEqual(read_code("be a n\narm hit n : 1\nend n")[0][2][0][1], ("n",))

    def test_values(self):
        cases = (
            ("0", 0), ("7", 7), ("-7", -7), ("10", 10), ("123456789012", 123456789012), ("-123456789012", -123456789012),
            ("999999999999", 999999999999), ("'a", "a"), ("'abcdefgh", "abcdefgh"), ("@0.0", ("at", 0, 0)), ("@0.12", ("at", 0, 12)),
            ("@10.0", ("at", 10, 0)), ("@123456789012.123456789012", ("at", 123456789012, 123456789012)),
        )
        for word, value in cases:
            self.assertEqual(read_code(ARM + "end " + word), with_end(("is", value)))
        self.assertEqual(read_code(ARM + "end @"), with_end(("self",)))
        self.assertEqual(read_code(ARM + "end abcdefgh"), with_end(("of", "abcdefgh")))
        self.assertEqual(read_code(ARM + "end - 1 -1"), with_end(("minus", ONE, ("is", -1))))
        self.assertEqual(read_code(ARM + "end + - 1 2 = < 3 4 5"), with_end(
            ("plus", ("minus", ONE, ("is", 2)), ("same", ("less", ("is", 3), ("is", 4)), ("is", 5)))))

    def test_sums_of_twelve_within_one_another(self):
        for many in (4, 5, 11, 12):
            code = with_end(deep_sum(many))
            self.assertEqual(read_code(shown_code(code)), code)
        self.assertEqual(read_code(ARM + "end" + " +" * 12 + " 1" * 13)[0][2][0][4][1][1][1][0], "plus")
        text = "be a\narm hit :" + " -" * 12 + " n" * 13 + "\nsend" + " =" * 12 + " @" * 13 + " tag" + (" <" * 12 + " 1" * 13) * 2
        self.assertEqual(shown_code(read_code(text + "\nend 1")), text + "\nend 1")


class Refused(unittest.TestCase):
    def check(self, text, line, word):
        with self.assertRaises(NoText, msg=text) as caught:
            read_code(text)
        error = caught.exception
        self.assertEqual((error.line, error.word), (line, word), text)
        self.assertEqual(kinds_of((error.line, error.word)), {tuple, int})

    def check_all(self, head, cases):
        """Each last line, one behind the head's, is refused at its word."""
        for line, word in cases:
            self.check(head + line, head.count("\n"), word)
            self.check(head + line + "\nend 1\n?", head.count("\n"), word)

    def test_void_texts_and_lines(self):
        self.check("", 0, 0)
        self.check("\n", 0, 0)
        self.check(" ", 0, 0)
        self.check("\nbe a", 0, 0)
        self.check("be a\n", 1, 0)
        self.check("be a\n\nbe b", 1, 0)
        self.check(ARM + "\nend 1", 2, 0)
        self.check(ARM + "end 1\n", 3, 0)
        self.check("be a\nlate 1\n\nend 1", 2, 0)
        self.check("be a\nlate 1\nend 1\n", 3, 0)
        self.check(CODE_TEXT + "\n", CODE_TEXT.count("\n") + 1, 0)

    def test_lines_of_another_sort(self):
        for line in ("arm hit : 1", "late 1", "send @ hit", "end 1", "go a", "tell 1", "Be a", "bea", "a", "0", ":", "-", "ask a b"):
            self.check(line, 0, 0)
            self.check(line + "\nbe a", 0, 0)
        for line in ("send @ hit", "make k a free", "tell 1", "end 1", "go a", "link 1", "b", "", " be a", "  ", "ask a b", "name a 1"):
            self.check("be a\n" + line, 1, 0)
            self.check(ARM + "end 1\n" + line, 3, 0)
            self.check("be a\nlate 1\nend 1\n" + line, 3, 0)
        for line in ("be a", "be b", "arm hit : 1", "late 1", "say 1", "", "1", ":", " end 1", "Tell 1", "ends 1", "none", "self"):
            self.check(ARM + line, 2, 0)
            self.check(ARM + "tell 1\n" + line + "\nend 1", 3, 0)
            self.check("be a\nlate 1\n" + line, 2, 0)
        for line in ("arm hit : 1", "late 1", "arm", "late", "arm arm"):
            self.check("be a\nlate 1\nend 1\n" + line + "\nend 1", 3, 0)

    def test_lines_that_lack(self):
        self.check("be a\narm hit : 1", 2, 0)
        self.check(ARM + "tell 1", 3, 0)
        self.check("be a\nlate 1", 2, 0)
        self.check("be a\nlate 1\nask k b\ntell 1", 4, 0)
        self.check(ARM + "end 1\narm hit : 1", 4, 0)
        self.check(ARM + "end 1\nlate 1", 4, 0)

    def test_words_of_be(self):
        cases = (
            ("be", 1), ("be ", 1), ("be 1", 1), ("be A", 1), ("be abcdefghi", 1), ("be  a", 1), ("be 'a", 1), ("be @", 1), ("be a ", 2),
            ("be a 1", 2), ("be a b b", 3), ("be a b c b", 4), ("be a b c d c e", 5), ("be a  b", 2), ("be a b ", 3), ("be a :", 2),
            ("be a b :", 3), ("be a abcdefghi", 2), ("be a b c 'd", 4), ("be a -", 2), ("be + a", 1), ("be a b B", 3),
        )
        self.check_all("", cases)
        self.check_all("be a a b\n", cases)

    def test_words_of_arm(self):
        self.check_all("be a n\n", (
            ("arm", 1), ("arm ", 1), ("arm :", 1), ("arm 1", 1), ("arm Hit : 1", 1), ("arm hit", 2), ("arm hit ", 2), ("arm hit 1", 2),
            ("arm hit :", 3), ("arm hit : ", 3), ("arm hit : :", 3), ("arm hit : 1 ", 4), ("arm hit : 1 1", 4), ("arm hit : 1 :", 4),
            ("arm hit n n : 1", 3), ("arm hit n m n : 1", 4), ("arm hit n", 3), ("arm hit n m", 4), ("arm hit n :", 4),
            ("arm hit n  : 1", 3), ("arm hit : +", 4), ("arm hit : + 1", 5), ("arm hit : + 1 1 1", 6), ("arm hit a b 'c : 1", 4),
            ("arm abcdefghi : 1", 1), ("arm hit abcdefghi : 1", 2), ("arm hit @ : 1", 2), ("arm hit:1", 1), ("arm hit :1", 2),
            ("arm hit : 1:", 3), ("arm  hit : 1", 1), ("arm hit : < 0 n 1", 6), ("arm hit + : 1", 2),
        ))

    def test_words_of_late(self):
        self.check_all("be a n\n", (
            ("late", 1), ("late ", 1), ("late :", 1), ("late 1 1", 2), ("late 1 ", 2), ("late +", 2), ("late + 1", 3), ("late : 1", 1),
            ("late + 1 1 1", 4), ("late 01", 1), ("late n : 1", 2),
        ))

    def test_words_of_acts_and_nexts(self):
        cases = (
            ("send", 1), ("send ", 1), ("send @", 2), ("send @ 1", 2), ("send @ @", 2), ("send @ Hit", 2), ("send @ 'hit", 2),
            ("send hit", 2), ("send + 1 hit", 4), ("send @ hit :", 3), ("send @ hit 1 ", 4), ("send @ hit 1 +", 5),
            ("send @ hit 1 + 1", 6), ("send @ hit  1", 3), ("send : hit", 1), ("send @ hit 1 2 3 4 'R", 7), ("send - hit", 3),
            ("make", 1), ("make 1", 1), ("make k", 2), ("make k @", 2), ("make k a", 3), ("make k a tied", 3), ("make k a 1", 3),
            ("make k a Free", 3), ("make k a free ", 4), ("make k a free :", 4), ("make k a free 1 -", 6), ("make k a  free", 3),
            ("make k free 1", 3), ("make 'k a free", 1), ("make k 'a free", 2), ("make k a 'free", 3), ("make k a linkeds", 3),
            ("name", 1), ("name 1", 1), ("name 'boss k", 1), ("name boss", 2), ("name boss :", 2), ("name boss k k", 3),
            ("name boss k ", 3), ("name boss + k", 4), ("name @ k", 1), ("ask", 1), ("ask 1", 1), ("ask k", 2), ("ask k 1", 2),
            ("ask k 'boss", 2), ("ask k boss boss", 3), ("ask k boss ", 3), ("ask @ boss", 1), ("ask k @", 2), ("ask  k boss", 1),
            ("go", 1), ("go 1", 1), ("go A", 1), ("go 'a", 1), ("go @", 1), ("go a :", 2), ("go a ", 2), ("go a 1 +", 4), ("go a 1  1", 3),
            ("go a + 1", 4), ("go abcdefghi", 1),
        )
        self.check_all(ARM, cases)
        self.check_all("be a\nlate 1\ntell 1\n", cases)
        for word in ("link", "unlink", "watch", "trap", "tell", "end"):
            self.check_all(ARM, (
                (word, 1), (word + " ", 1), (word + " :", 1), (word + " 1 1", 2), (word + " 1 ", 2), (word + " + 1", 3), (word + " <", 2),
                (word + " < 1 1 1", 4), (word + "  1", 1), (word + " hit @", 2),
            ))

    def test_words_of_sums(self):
        words = (
            "", "A", "a1", "1a", "abcdefghi", "'", "''", "'A", "'1", "'abcdefghi", "'a'", "--1", "-0", "-00", "-01", "00", "01", "007", "+1",
            "1.0", "1-", "1234567890123", "-1234567890123", "0000000000001", "@.", "@0", "@0.", "@.0", "@-1.0", "@0.-1", "@01.0", "@0.01",
            "@0.0.0", "@0.a", "@a.0", "@'a", "@@", "@1234567890123.0", "@0.1234567890123", "0.12", ":", "(", "*", "++", "<=", "==", ">",
            "/", "1_0", "@-0.0", "@0.-0", "@+.0", "~", "!", "1e3", "0x1", "-a", "-'a", "+a", "@1,0", "(1)", "@0.1.", "@.", "1:", "-@",
        )
        for word in words:
            self.check(ARM + "end " + word, 2, 1)
            self.check(ARM + "end + 1 " + word, 2, 3)
            self.check(ARM + "end + " + word + " 1", 2, 2)
            self.check(ARM + "send @ hit 1 " + word + " 1\nend 1", 2, 4)
            self.check("be a\narm hit a : " + word, 1, 4)

    def test_blanks_within_words(self):
        self.check(ARM + "end @ ", 2, 2)
        self.check(ARM + "end 'a b", 2, 2)
        self.check(ARM + "end @1 .0", 2, 1)
        self.check(ARM + "end - 1", 2, 3)
        self.check(ARM + "end ' a", 2, 1)

    def test_a_minus_alone_is_a_sum_of_two(self):
        self.check(ARM + "end -", 2, 2)
        self.check(ARM + "end - 1", 2, 3)
        self.check(ARM + "end - 1 -", 2, 4)
        self.check(ARM + "end -1 1", 2, 2)

    def test_sums_of_thirteen_within_one_another(self):
        for sign in "+-<=":
            self.check(ARM + "end" + (" " + sign) * 13 + " 1" * 14, 2, 13)
            self.check(ARM + "end" + (" " + sign) * 20, 2, 13)
            self.check(ARM + "end" + " + 1" * 12 + " " + sign + " 1 1", 2, 25)
            self.check("be a\narm hit :" + (" " + sign) * 13 + " 1" * 14, 1, 15)
        self.check(ARM + "end" + (" +" * 12) + " 1", 2, 14)
        self.check(ARM + "tell 1\nend + 1" + " -" * 12 + " 1" * 13, 3, 14)
        for many in (13, 14, 30):
            with self.assertRaises(NoText):
                read_code(shown_code(with_end(deep_sum(many))))

    def test_within_is_counted_for_each_sum_alone(self):
        text = ARM + "send" + " +" * 12 + " 1" * 13 + " hit" + (" +" * 12 + " 1" * 13) * 3 + "\nend 1"
        self.assertEqual(shown_code(read_code(text)), text)
        text = ARM + "end +" + (" +" * 11 + " 1" * 12) * 2
        self.assertEqual(shown_code(read_code(text)), text)
        self.check(ARM + "end +" + " +" * 11 + " 1" * 12 + " +" * 12 + " 1" * 13, 2, 36)

    def test_figures_of_sums_of_bounds(self):
        for many in (1, 11, 12):
            self.assertEqual(read_code(ARM + "end " + "9" * many), with_end(("is", 10 ** many - 1)))
        for many in (13, 14, 200):
            self.check(ARM + "end " + "9" * many, 2, 1)
            self.check(ARM + "end -" + "9" * many, 2, 1)

    def test_the_first_line_is_told(self):
        self.check("be a b b\narm", 0, 3)
        self.check("be a\narm hit\ntell\nbe", 1, 2)
        self.check("be b\nbe a\nbe", 2, 1)

    def test_text_goes_ahead_of_code(self):
        self.check("be b\nbe a\narm hit : 1\ntell 1", 4, 0)
        self.check("be a\narm hit : 1\ngo z\n", 3, 0)

    def check_code(self, text, word, at):
        with self.assertRaises(NoCode, msg=text) as caught:
            read_code(text)
        self.assertEqual((caught.exception.word, caught.exception.at), (word, at))

    def test_what_is_read_and_is_no_code(self):
        self.check_code("be b\nbe a", "rising", 1)
        self.check_code("be a\nbe a", "rising", 1)
        self.check_code("be a\nbe b\nbe c\nbe b", "rising", 3)
        self.check_code(ARM + "go b", "there", (0, 0))
        self.check_code(ARM + "make k a free\nmake k b free\nend 1", "there", (0, 1))
        self.check_code(ARM + "go a 1", "many", (0, 0))
        self.check_code("be a\nbe b n\nlate 1\nmake k b free n\ngo b", "many", (1, 1))
        self.check_code("be b\nlate 1\ngo z\nbe a", "rising", 1)


class AnyText(unittest.TestCase):
    def test_what_is_read_is_written_as_the_same_text(self):
        chance = random.Random(17)
        maker = Maker(18)
        read = 0
        for _ in range(3000):
            text = self.turned(chance, shown_code(maker.code()) if chance.randrange(3) else CODE_TEXT)
            try:
                code = read_code(text)
            except FolkError as refused:
                self.assertIn(type(refused), (NoText, NoCode))
                if type(refused) is NoText:
                    self.check_place(text, refused)
                continue
            read += 1
            self.assertIs(is_code(code), True)
            self.assertEqual(shown_code(code), text)
        self.assertGreater(read, 100)

    def turned(self, chance, text):
        """The text with one word, blank or line otherwise."""
        k = chance.randrange(len(text) + 1)
        sort = chance.randrange(4)
        if sort == 0:
            return text[:k] + chance.choice("a0-+'@.: \n") + text[k:]
        if sort == 1:
            return text[:k] + text[k + 1:]
        lines = text.split("\n")
        j = chance.randrange(len(lines))
        if sort == 2:
            return "\n".join([*lines[:j], *lines[j + 1:]])
        words = lines[j].split(" ")
        words[chance.randrange(len(words))] = chance.choice(("a", "b", "7", "@", "-", "'red", "@0.1", ":", "01"))
        return "\n".join([*lines[:j], " ".join(words), *lines[j + 1:]])

    def check_place(self, text, refused):
        """The refusal hangs on nothing behind the place that it tells."""
        lines = text.split("\n")
        self.assertLessEqual(refused.line, len(lines))
        if refused.line == len(lines):
            self.assertEqual(refused.word, 0)
            return
        words = lines[refused.line].split(" ")
        self.assertLessEqual(refused.word, len(words))
        if refused.word < len(words):
            words = words[:refused.word + 1]
        cut = "\n".join([*lines[:refused.line], " ".join(words)])
        with self.assertRaises(NoText) as caught:
            read_code(cut)
        self.assertEqual((caught.exception.line, caught.exception.word), (refused.line, refused.word))
