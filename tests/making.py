"""What several tests hand in: things of all kinds, code that has every sort of part, and made-up code."""

import random

TOP = 10 ** 200 - 1


def nested(thing, times):
    """The thing within so many tuples."""
    for _ in range(times):
        thing = (thing,)
    return thing


def nested_list(thing, times):
    """The thing within so many lists."""
    for _ in range(times):
        thing = [thing]
    return thing


# None of these is a tree of any kind, nor a letter, nor a value.
NOTHINGS = (
    None, True, False, (), [], "", " ", "A", "aB", "a b", "a1", "1", "'a", "@", "abcdefghi", "a-b", "a\nb", "a.",
    (None,), (True,), [()], [1, 2], ["at", 0, 0], ((),), ([],), ("",), nested((), 39), nested_list([], 39),
    nested(None, 39), (1, 2, 3, 4, 5, 6, 7), "a" * 4000, (0,) * 4999, ("at",), ["self"], ["of", "a"], "at 0 0",
    ("self", "self"), ("none",), ("arm", "a", (), 3), ("guard", 3), ("of", "a", "b", "c", "d", "e"),
)

# Each of these is no word, no number and no tuple; in the place of a text in a tree each of them is wrong.
NO_TEXTS = ("", "abcdefghi", "A", "a1", "a b", " a", True, False, None, [], (), ("a",), ["a"])
NO_NUMBERS = (True, False, None, "", "7", "1", [], (), (1,), [1])


def replaced(thing, path, other):
    """The thing, but other where the path leads."""
    if not path:
        return other
    k = path[0]
    return (*thing[:k], replaced(thing[k], path[1:], other), *thing[k + 1:])


def places(thing, path=()):
    """All places in a thing of tuples, as pairs of a path and what stands there."""
    found = [(path, thing)]
    if isinstance(thing, tuple):
        for k, part in enumerate(thing):
            found.extend(places(part, (*path, k)))
    return found


def spoiled(thing):
    """Things that are of no kind, each made of a tree that is: one place of it is made wrong."""
    found = []
    for path, part in places(thing):
        if isinstance(part, tuple):
            more = [(*part, *[None] * many) for many in range(1, 6)]
            wrong = (list(part), *more, (*part, []), True, False)
        elif isinstance(part, str):
            wrong = NO_TEXTS
        elif part is None:
            wrong = (False, True, 0, (), [], "none")
        else:
            wrong = NO_NUMBERS
        found.extend([replaced(thing, path, other) for other in wrong])
    return found


def kinds_of(thing):
    """The kinds of all plain things within a thing, itself too."""
    found = {type(thing)}
    if isinstance(thing, (tuple, list)):
        for part in thing:
            found |= kinds_of(part)
    return found


def deep_sum(times, leaf=("of", "x")):
    """A sum of so many sums within one another."""
    amount = leaf
    for k in range(times):
        amount = ("plus", amount, ("is", k)) if k % 2 else ("minus", ("is", k), amount)
    return amount


SUMS = (
    ("is", 0), ("is", -7), ("is", TOP), ("is", -TOP), ("is", "red"), ("is", ("at", 0, 12)), ("of", "n"), ("self",),
    ("plus", ("of", "n"), ("is", 1)), ("minus", ("self",), ("is", "x")), ("less", ("of", "a"), ("of", "b")),
    ("same", ("is", ("at", 3, 4)), ("self",)), ("plus", ("minus", ("is", 1), ("is", 2)), ("less", ("is", 3), ("self",))),
)

ACTS = (
    ("send", ("of", "to"), "hit", (("is", 1), ("is", "red"), ("self",))), ("send", ("self",), "hit", ()),
    ("make", "k", "work", (("of", "n"),), "free"), ("make", "k", "rest", (), "linked"),
    ("make", "k", "work", (("is", ("at", 1, 2)),), "watched"), ("link", ("of", "k")), ("unlink", ("of", "k")),
    ("watch", ("of", "k")), ("trap", ("is", 1)), ("name", "boss", ("of", "k")), ("ask", "b", "boss"),
    ("tell", ("plus", ("of", "n"), ("is", -3))),
)

NEXTS = (
    ("go", "work", (("minus", ("of", "n"), ("is", 1)),)), ("go", "rest", ()), ("end", ("is", "done")), ("end", ("of", "n")),
)

ARMS = (
    ("hit", ("n", "to"), ("less", ("is", 0), ("of", "n")), ACTS, NEXTS[0]), ("hit", (), ("is", 1), (), NEXTS[2]),
    ("bye", ("k",), ("same", ("of", "k"), ("self",)), ACTS[1:2], NEXTS[1]),
)

LATES = ((("is", 5), (), ("end", ("self",))), (("of", "n"), ACTS, NEXTS[0]))

BEHAVIOURS = (
    ("rest", (), (), None), ("rest", (), (ARMS[1],), LATES[0]), ("work", ("n",), ARMS, LATES[1]),
    ("work", ("a", "b", "c"), ARMS[1:], None),
)

CODE = (BEHAVIOURS[1], BEHAVIOURS[2])

CODE_TEXT = """be rest
arm hit : 1
end 'done
late 5
end @
be work n
arm hit n to : < 0 n
send to hit 1 'red @
send @ hit
make k work free n
make k rest linked
make k work watched @1.2
link k
unlink k
watch k
trap 1
name boss k
ask b boss
tell + n -3
go work - n 1
arm hit : 1
end 'done
arm bye k : = k @
send @ hit
go rest
late n
send to hit 1 'red @
send @ hit
make k work free n
make k rest linked
make k work watched @1.2
link k
unlink k
watch k
trap 1
name boss k
ask b boss
tell + n -3
go work - n 1"""

WORDS = ("a", "b", "c", "hit", "red", "bye", "boss", "self", "at", "none", "be", "arm", "go")


class Maker:
    """Made-up things of all kinds, the same ones for the same seed."""

    def __init__(self, seed):
        self.chance = random.Random(seed)

    def one_of(self, things):
        return self.chance.choice(things)

    def word(self):
        return self.one_of(WORDS)

    def address(self):
        return ("at", self.chance.randrange(3), self.chance.randrange(5))

    def value(self):
        sort = self.chance.randrange(6)
        if sort == 0:
            return self.word()
        if sort == 1:
            return self.address()
        if sort == 2:
            return self.chance.randrange(-10 ** 6, 10 ** 6 + 1)
        return self.chance.randrange(-2, 4)

    def values(self, many):
        return tuple([self.value() for _ in range(many)])

    def amount(self, within=0):
        sort = self.chance.randrange(8)
        if sort < 3 and within < 4:
            word = self.one_of(("plus", "minus", "less", "same"))
            return (word, self.amount(within + 1), self.amount(within + 1))
        if sort < 5:
            return ("of", self.word())
        return ("self",) if sort == 5 else ("is", self.value())

    def target(self):
        """A sum that is more often worth an address."""
        return self.one_of((("is", self.address()), ("self",), ("of", self.word()), self.amount(3)))

    def amounts(self, many=None):
        many = self.chance.randrange(4) if many is None else many
        return tuple([self.amount(2) for _ in range(many)])

    def names(self, most=3):
        return tuple(self.chance.sample(WORDS, self.chance.randrange(most + 1)))

    def act(self, heads):
        word = self.one_of(("send", "make", "make", "link", "unlink", "watch", "trap", "name", "name", "ask", "ask", "tell"))
        if word == "send":
            return ("send", self.target(), self.word(), self.amounts())
        if word == "make":
            behaviour = self.one_of(sorted(heads))
            how = self.one_of(("free", "linked", "watched"))
            return ("make", self.word(), behaviour, self.amounts(heads[behaviour]), how)
        if word == "name":
            return ("name", self.word(), self.target())
        if word == "ask":
            return ("ask", self.word(), self.word())
        return (word, self.target())

    def acts(self, heads):
        return tuple([self.act(heads) for _ in range(self.chance.randrange(6))])

    def last(self, heads):
        if self.chance.randrange(3) == 0:
            return ("end", self.amount(2))
        behaviour = self.one_of(sorted(heads))
        return ("go", behaviour, self.amounts(heads[behaviour]))

    def arm(self, heads):
        tag = self.one_of(("hit", "hit", "bye", "a"))
        guard = self.one_of((("is", 1), self.amount(1), self.amount(2)))
        return (tag, self.names(2), guard, self.acts(heads), self.last(heads))

    def code(self):
        """Code within the bounds of the document."""
        heads = {name: self.names(4) for name in self.chance.sample(WORDS, self.chance.randrange(1, 6))}
        many = {name: len(params) for name, params in heads.items()}
        code = []
        for name in sorted(heads):
            arms = tuple([self.arm(many) for _ in range(self.chance.randrange(5))])
            late = (self.amount(), self.acts(many), self.last(many)) if self.chance.randrange(2) else None
            code.append((name, heads[name], arms, late))
        return tuple(code)

    def letter(self, behaviour):
        """A letter, mostly one of a tag and with as many values as some arm has."""
        if behaviour[2] and self.chance.randrange(5):
            arm = self.one_of(behaviour[2])
            return (arm[0], self.values(len(arm[1])))
        return (self.one_of(("hit", "bye", "a", "no")), self.values(self.chance.randrange(4)))

    def around(self, address):
        """An around of the house of the address, who lives there."""
        count = self.chance.randrange(5, 9)
        alive = {n for n in range(count) if self.chance.randrange(2)} | {address[2]}
        pairs = {(self.word(), self.address()) for _ in range(self.chance.randrange(6))}
        return (count, tuple(sorted(alive)), tuple(sorted(pairs)))
