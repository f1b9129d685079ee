"""Points 14 and 22: who hangs on a behaviour."""

import unittest

from letterfolk.hangs import hang_on
from letterfolk.trees import namings
from making import Maker, kinds_of

ONE = ("is", 1)


def names(name, made=(), gone=None, late=None):
    """A behaviour that names those made, then who it goes to, then who it goes to when late."""
    acts = tuple([("make", "k", other, (), "free") for other in made])
    last = ("end", ONE) if gone is None else ("go", gone, ())
    late = None if late is None else (ONE, (), ("go", late, ()))
    return (name, (), (("hit", (), ONE, acts, last),), late)


class HangOn(unittest.TestCase):
    def check(self, code, expected):
        for name, told in expected.items():
            self.assertEqual(hang_on(code, name), tuple(told))

    def test_that_nobody_names(self):
        self.check((names("a"), names("b")), {"a": "a", "b": "b"})
        self.check((names("a", gone="b"), names("b")), {"a": "a", "b": "ab"})

    def test_that_names_itself(self):
        self.check((names("a", gone="a"), names("b", made="b")), {"a": "a", "b": "b"})

    def test_a_ring(self):
        self.check((names("a", gone="b"), names("b", gone="c"), names("c", gone="a"), names("d")), {"a": "abc", "b": "abc", "c": "abc", "d": "d"})
        self.check((names("a", gone="b"), names("b", made="a"), names("c", gone="a")), {"a": "abc", "b": "abc", "c": "c"})

    def test_a_row_of_namings(self):
        code = (names("a", gone="b"), names("b", made="c"), names("c", late="d"), names("d"))
        self.check(code, {"a": "a", "b": "ab", "c": "abc", "d": "abcd"})
        code = (names("a"), names("b", late="a"), names("c", made="b"), names("d", gone="c"))
        self.check(code, {"a": "abcd", "b": "bcd", "c": "cd", "d": "d"})

    def test_by_many_ways(self):
        code = (names("a"), names("b", gone="a"), names("c", gone="a"), names("d", made="bc"), names("e", late="d"), names("f", made="f"))
        self.check(code, {"a": "abcde", "b": "bde", "c": "cde", "d": "de", "e": "e", "f": "f"})

    def test_second_arms_and_lates_name(self):
        two = ("b", (), (("hit", (), ONE, (), ("end", ONE)), ("hit", (), ONE, (), ("go", "a", ()))), None)
        late = ("c", (), (), (ONE, (("make", "k", "a", (), "free"),), ("end", ONE)))
        self.check((names("a"), two, late), {"a": "abc"})

    def test_words_and_tags_name_nobody(self):
        acts = (("send", ONE, "a", (("of", "a"), ("is", "a"))), ("name", "a", ("of", "a")), ("ask", "a", "a"), ("make", "a", "b", (), "free"))
        code = (names("a"), ("b", (), (("a", ("a",), ONE, acts, ("end", ("is", "a"))),), None))
        self.check(code, {"a": "a", "b": "b"})

    def test_long_rows(self):
        every = [a + b for a in "abcdefghijklmnopqrst" for b in "abcdefghijklmnopqrst"]
        code = tuple([names(name, gone=every[max(0, k - 1)]) for k, name in enumerate(every)])
        self.assertEqual(hang_on(code, every[0]), tuple(every))
        self.assertEqual(hang_on(code, every[-1]), (every[-1],))

    def test_made_up_ones(self):
        maker = Maker(23)
        for _ in range(80):
            code = maker.code()
            for behaviour in code:
                found = {behaviour[0]}
                for _ in code:
                    found |= {other[0] for other in code if found & {name for name, _ in namings(other)}}
                self.assertEqual(hang_on(code, behaviour[0]), tuple(sorted(found)))

    def test_kinds_and_names(self):
        code = (names("a", gone="b"), names("b"))
        told = hang_on(name="b", code=code)
        self.assertEqual(told, ("a", "b"))
        self.assertEqual(kinds_of(told), {tuple, str})
