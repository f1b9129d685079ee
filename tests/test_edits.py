"""Points 23 and 24: what changes from one code to another, and what is made anew."""

import random
import unittest

from letterfolk.codereader import read_code
from letterfolk.coderows import made, made_code
from letterfolk.codetexts import shown_code
from letterfolk.edits import code_changes, made_again
from letterfolk.errors import FolkError
from making import CODE_TEXT, Maker, kinds_of

ONE, TWO = ("is", 1), ("is", 2)


def ends(name, amount=ONE, params=()):
    return (name, params, (("hit", (), ONE, (), ("end", amount)),), None)


A, B, C, D = ends("a"), ends("b"), ends("c"), ends("d")
B_TURNED, C_TURNED = ends("b", TWO), ends("c", ONE, ("n",))


class Changes(unittest.TestCase):
    def check(self, one, other, told):
        self.assertEqual(code_changes(one, other), told)
        gone, come, turned = told
        self.assertEqual(code_changes(other, one), (come, gone, turned))

    def test_none(self):
        self.check((A, B, C), (A, B, C), ((), (), ()))
        self.check((A,), (ends("a"),), ((), (), ()))

    def test_gone_and_come(self):
        self.check((A, B, C), (B,), (("a", "c"), (), ()))
        self.check((A,), (B,), (("a",), ("b",), ()))
        self.check((A, C), (B, D), (("a", "c"), ("b", "d"), ()))

    def test_turned(self):
        self.check((A, B, C), (A, B_TURNED, C), ((), (), ("b",)))
        self.check((A, B, C), (A, B_TURNED, C_TURNED), ((), (), ("b", "c")))

    def test_all(self):
        self.check((A, B, C), (B_TURNED, C, D), (("a",), ("d",), ("b",)))
        self.check((A, B), (B_TURNED, C_TURNED, D), (("a",), ("c", "d"), ("b",)))

    def test_each_part_of_a_tree_turns_it(self):
        late = (ONE, (("tell", ONE),), ("go", "a", ()))
        tree = ("a", (), (("hit", ("n",), ONE, (("ask", "k", "b"),), ("end", ONE)),), late)
        others = (
            ("a", (), tree[2] * 2, late), ("a", (), (), late), ("a", (), tree[2], None), ("a", (), tree[2], (TWO, late[1], late[2])),
            ("a", (), tree[2], (ONE, (), late[2])), ("a", (), tree[2], (ONE, late[1], ("end", ONE))),
            ("a", (), (("hut", *tree[2][0][1:]),), late), ("a", (), (("hit", ("m",), *tree[2][0][2:]),), late),
            ("a", (), (("hit", ("n",), TWO, *tree[2][0][3:]),), late), ("a", (), (("hit", ("n",), ONE, (), ("end", ONE)),), late),
            ("a", (), (("hit", ("n",), ONE, (("ask", "k", "c"),), ("end", ONE)),), late),
        )
        for other in others:
            self.check((tree,), (other,), ((), (), ("a",)))
        self.check((ends("a"),), (ends("a", ONE, ("n",)),), ((), (), ("a",)))

    def test_kinds_and_names(self):
        told = code_changes(other=(B_TURNED, D), one=(A, B))
        self.assertEqual(told, (("a",), ("d",), ("b",)))
        self.assertEqual(kinds_of(told), {tuple, str})
        self.assertEqual(len(told), 3)

    def test_made_up_ones(self):
        maker = Maker(24)
        for _ in range(100):
            one, other = maker.code(), maker.code()
            mixed = tuple(sorted({behaviour[0]: behaviour for behaviour in one[::2] + other}.values()))
            old, new = dict([(b[0], b) for b in one]), dict([(b[0], b) for b in mixed])
            told = (
                tuple(sorted(set(old) - set(new))), tuple(sorted(set(new) - set(old))),
                tuple(sorted([name for name in set(old) & set(new) if old[name] != new[name]])))
            self.check(one, mixed, told)


class MadeAgain(unittest.TestCase):
    def test_come_and_turned_are_made_anew(self):
        one, other = (A, B, C), (B_TURNED, C, D)
        told = made_again(one, other, rows=made_code(one))
        self.assertEqual(told, (made_code(other), ("b", "d")))

    def test_names_are_rising(self):
        one, other = (B, D), (A, B_TURNED, C, ends("d", TWO))
        self.assertEqual(made_again(one, other, rows=made_code(one))[1], ("a", "b", "c", "d"))

    def test_nothing_is_made_anew(self):
        one = (A, B, C)
        rows = made_code(one)
        self.assertEqual(made_again(one, one, rows=rows), (rows, ()))
        self.assertEqual(made_again(one, (B,), rows=rows), ((rows[1],), ()))

    def test_the_others_rows_are_those_handed_in(self):
        one, other = (A, B, C), (A, B_TURNED, C, D)
        rows = made_code(one)
        told, _ = made_again(one, other, rows=rows)
        self.assertIs(told[0][1], rows[0][1])
        self.assertIs(told[2][1], rows[2][1])
        self.assertEqual(told[1], ("b", made(B_TURNED)))
        self.assertEqual(told[3], ("d", made(D)))

    def test_what_was_handed_in_stays(self):
        one, other = (A, B), (B_TURNED, C)
        rows = made_code(one)
        made_again(one, other, rows=rows)
        self.assertEqual((one, other, rows), ((A, B), (B_TURNED, C), made_code((A, B))))

    def test_kinds_and_names(self):
        one, other = (A, B), (B_TURNED, C)
        told = made_again(rows=made_code(one), other=other, one=one)
        self.assertEqual(told, (made_code(other), ("b", "c")))
        self.assertLessEqual(kinds_of(told), {tuple, str, int, type(None)})
        with self.assertRaises(TypeError):
            made_again(one, other, made_code(one))

    def test_made_up_ones(self):
        maker = Maker(25)
        for _ in range(100):
            one, other = maker.code(), maker.code()
            mixed = tuple(sorted({behaviour[0]: behaviour for behaviour in other + one[::2]}.values()))
            rows = made_code(one)
            told, names = made_again(one, mixed, rows=rows)
            _, come, turned = code_changes(one, mixed)
            self.assertEqual((told, names), (made_code(mixed), tuple(sorted(come + turned))))
            kept = dict(rows)
            for name, row in told:
                self.assertEqual(name not in names, row is kept.get(name))


class Lines(unittest.TestCase):
    """A line otherwise, no be, turns the rows of the behaviour alone in which it stands."""

    def check(self, text, k, line):
        """Whether the text with its k-th line so is read; then only this one's behaviour may turn."""
        lines = text.split("\n")
        heads = [other.split(" ")[1] for other in lines[:k] if other.startswith("be ")]
        one = read_code(text)
        try:
            other = read_code("\n".join([*lines[:k], line, *lines[k + 1:]]))
        except FolkError:
            return False
        told = code_changes(one, other)
        self.assertEqual(told, ((), (), (heads[-1],) if line != lines[k] else ()))
        rows = made_code(one)
        again, names = made_again(one, other, rows=rows)
        self.assertEqual((again, names), (made_code(other), told[2]))
        for old, new in zip(rows, again):
            self.assertEqual(old[1] == new[1], old[0] not in names)
        return True

    def test_some_lines(self):
        text = CODE_TEXT
        for old, new in (("late 5", "late 6"), ("tell + n -3", "tell n"), ("arm bye k : = k @", "arm bye k : 1"), ("trap 1", "link 1")):
            k = text.split("\n").index(old)
            self.assertTrue(self.check(text, k, new))

    def test_made_up_lines(self):
        chance = random.Random(26)
        maker = Maker(27)
        read = 0
        for _ in range(300):
            text = shown_code(maker.code())
            more = shown_code(maker.code()).split("\n")
            lines = text.split("\n")
            places = [k for k, line in enumerate(lines) if not line.startswith("be ")]
            others = [line for line in more if not line.startswith("be ")]
            if places and others:
                for _ in range(5):
                    k = chance.choice(places)
                    word = lines[k].split(" ")[0]
                    same = [line for line in others if line.split(" ")[0] == word] or others
                    read += self.check(text, k, chance.choice(same))
        self.assertGreater(read, 100)
