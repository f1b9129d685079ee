"""The script that looks for breaches of the rules of the language finds them, and finds none in the package."""

import os
import sys
import tempfile
import unittest

HOME = os.path.dirname(os.path.dirname(os.path.abspath(__file__)))
sys.path.insert(0, os.path.join(HOME, "tools"))

from rules import breaches  # noqa: E402

GOOD = '''"""A file."""

from letters.other import SIGNS, Base, kept

LIMIT = 3
TABLE = {"a": kept}
ROWS = ("a", -1, (None, True))


class Bad(ValueError):
    """An error."""

    def __init__(self, at):
        self.at = at


class Box(Base):
    """A box."""

    def __init__(self, rows, *, most=LIMIT):
        self.rows = list(rows)
        self.most = most

    def first(self, k=0):
        """The first row from k on."""
        for row in self.rows[k:]:
            if row is not None:
                return row
        raise Bad(k)


def told(words, /, by=(1, -2)):
    """What is told: no type of things, no enum."""
    try:
        action = TABLE[words[0]]
    except (KeyError, Bad):
        return [SIGNS["plus"], *words]
    found = {word: True for word in words}
    low, *_ = sorted(found)
    return f"{action(low)} of {len(set(words))}" if any([word for word in words]) else -by[0] // 2
'''
OTHER = '''"""Another file."""

SIGNS = {"plus": "+"}


class Base:
    """A base."""


def kept(thing):
    """The thing."""
    return thing
'''

# Each of these, as the one file of a package, breaks the rule.
WRONG = (
    ("L2", "from .other import kept\n"), ("L2", "from letters.other import *\n"), ("L2", "from os import path\n"),
    ("L2", "from heapq import merge\n"), ("L2", "from math import gcd as g\n"), ("L2", "A = 1\nfrom letters.other import kept\n"),
    ("L2", "def told():\n    from letters.other import kept\n    return kept\n"), ("L2", "from letters.missing import kept\n"),
    ("L2", "from __future__ import division\n"), ("L16", "import random\n"), ("L3", "print(1)\n"), ("L3", "A, B = 1, 2\n"),
    ("L3", "A = len('ab')\n"), ("L3", "A = [k for k in (1, 2)]\n"), ("L3", "if 1:\n    A = 1\n"), ("L4", "@kept\ndef told():\n    return 1\n"),
    ("L4", "def told(rows=[]):\n    return rows\n"), ("L4", "def told(many=len('a')):\n    return many\n"),
    ("L5", "class A:\n    def __hash__(self):\n        return 1\n"), ("L5", "class A(metaclass=B):\n    pass\n"),
    ("L6", "A = 1\n\n\ndef told():\n    global A\n    A = 2\n"), ("L6", "async def told():\n    return 1\n"),
    ("L7", "def told(a, b):\n    return a / b\n"), ("L7", "A = 1.5\n"), ("L7", "def told(xs):\n    return set(x for x in xs)\n"),
    ("L8", "def told(x):\n    return round(x)\n"), ("L8", "def told(x):\n    return getattr(x, 'a')\n"),
    ("L8", "def told(x):\n    print(x)\n"), ("L8", "def told(x):\n    return nowhere(x)\n"), ("L8", "def told(x):\n    return x.__dict__\n"),
    ("L10", "A = '" + "a" * 120 + "'\n"), ("L10", "def told(x):\n" + "    x += 1\n" * 40), ("L10", "# a\n" * 400),
    ("L12", "def __told():\n    return 1\n"), ("L12", "def told(x_):\n    return _\n"), ("L12", "A = '_wall'\n"),
    ("L12", "def told(__x):\n    return 1\n"), ("L14", "A = 'a\tb'\n"), ("L14", "# \u00e9\nA = 1\n"), ("L15", "A = 1\nA = 2\n"),
    ("L15", "A = ([1],)\n"), ("L15", "A = {'a': {}}\n"), ("L15", "def told(max):\n    return max\n"), ("L15", "def told():\n    id = 1\n    return 2\n"),
    ("L15", "A = [1]\n\n\ndef told():\n    A.append(2)\n"), ("L15", "A = {}\n\n\ndef told():\n    A['a'] = 2\n"),
    ("L15", "A = [1]\n\n\ndef told():\n    return A\n"), ("L15", "def told():\n    class A:\n        pass\n"),
    ("L15", "class A:\n    pass\n\n\ndef told(A):\n    return A\n"), ("L15", "def hash():\n    return 1\n"),
    ("L15", "def told():\n    for sum in (1, 2):\n        pass\n"), ("L16", "import sys\n"), ("L16", "from letters import one\n"),
    ("L17", "def told(register):\n    return 1\n"), ("L17", "def told(os):\n    return 1\n"), ("L17", "A = 'enum'\n"),
    ("L17", "A = 'a dataclasses'\n"), ("L17", "def told(x):\n    return x.f_back\n"), ("L17", "def told(x):\n    return x.args\n"),
    ("L17", "def told(x):\n    return x.open\n"),
    ("L18", "class A:\n    def at(self):\n        return 1\n\n    def at(self):\n        return 2\n"),
    ("L18", "class A:\n    def __init__(self):\n        self.at = 1\n\n    def at(self):\n        return 2\n"),
    ("L19", "def told():\n    raise TypeError\n"), ("L19", "def told(e):\n    raise e\n"),
    ("L19", "def told():\n    try:\n        return 1\n    except TypeError:\n        return 2\n"),
    ("L19", "def told():\n    try:\n        return 1\n    except:\n        return 2\n"), ("L20", "def told(x):\n    return x is 1\n"),
    ("L22", "def told(x):\n    return int(x, base=2)\n"), ("L24", "def told(x):\n    for y in set(x):\n        return y\n"),
    ("L24", "def told(x):\n    return [y for y in {1, x}]\n"), ("L25", "def told(x):\n    return x.format(1)\n"),
    ("L25", "def told(x):\n    return x.isalphabetic()\n"), ("L25", "def told(x):\n    return x.split(sep='a')\n"),
    ("L26", "class A:\n    def decode(self):\n        return 1\n"), ("L26", "class A:\n    def __init__(self):\n        self.items = 1\n"),
    ("L27", "A = 'a" + "%" + "'\n"), ("L27", "def told(n):\n    return 2 ** n\n"), ("L27", "A = 'a\\x41'\n"), ("L27", "A = '__odd__'\n"),
    ("L27", "A = 'a._'\n"), ("L28", "class A:\n    def __init__(self):\n        return 1\n"),
)


class Rules(unittest.TestCase):
    def found(self, files):
        """The rules that a package of these files breaks."""
        with tempfile.TemporaryDirectory() as folder:
            package = os.path.join(folder, "letters")
            for name, text in files.items():
                path = os.path.join(package, name)
                os.makedirs(os.path.dirname(path), exist_ok=True)
                with open(path, "w", encoding="utf-8") as held:
                    held.write(text)
            return [row.split(": ", 1)[1].split(" ")[0] for row in breaches(package)]

    def test_none_in_the_package(self):
        self.assertEqual(breaches(os.path.join(HOME, "letterfolk")), [])

    def test_none_in_good_files(self):
        self.assertEqual(self.found({"__init__.py": "", "one.py": GOOD, "other.py": OTHER}), [])

    def test_each_wrong_file(self):
        for rule, text in WRONG:
            with self.subTest(rule=rule, text=text):
                self.assertIn(rule, self.found({"__init__.py": "", "one.py": text, "other.py": OTHER}))

    def test_folders(self):
        self.assertEqual(self.found({"__init__.py": "", "sub/__init__.py": "", "sub/one.py": "A = 1\n"}), [])
        self.assertIn("L14", self.found({"__init__.py": "", "sub/one.py": "A = 1\n"}))
        self.assertIn("L14", self.found({"one.py": "A = 1\n"}))
        self.assertIn("L1", self.found({"__init__.py": "", "notes.txt": "a"}))
        self.assertIn("L1", self.found({"__init__.py": "", "One.py": "A = 1\n"}))
        self.assertIn("L14", self.found({"__init__.py": "", "sum.py": "A = 1\n"}))
        self.assertIn("L14", self.found({"__init__.py": "", "test_one.py": "A = 1\n"}))
        self.assertIn("L14", self.found({"__init__.py": "", "typing.py": "A = 1\n", "types.py": "", "vars.py": ""}))

    def test_files_that_import_from_each_other(self):
        one = "from letters.two import b\n\n\ndef a():\n    return b()\n"
        two = "from letters.three import c\n\n\ndef b():\n    return c()\n"
        three = "from letters.one import a\n\n\ndef c():\n    return a()\n"
        self.assertIn("L16", self.found({"__init__.py": "", "one.py": one, "two.py": two, "three.py": three}))

    def test_a_name_is_imported_from_where_it_is_defined(self):
        one = "from letters.other import kept\n"
        two = "from letters.one import kept\n"
        self.assertIn("L16", self.found({"__init__.py": "", "one.py": one, "two.py": two, "other.py": OTHER}))
