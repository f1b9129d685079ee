"""What several tests of houses hand in: a library, its keepers' rows, and made-up ones of all these."""

from letterfolk.codereader import read_code
from making import NOTHINGS, TOP, Maker

ONE = ("is", 1)
END = ("end", ("is", "done"))

# The first has many, the second takes one name more; the third drops rest and keeps the rest by other names.
TEXTS = (
    "be count n\narm add k : < 0 k\ngo count + n k\narm out : 1\nend 'done\nbe rest\narm hit : 1\nend 'done",
    "be count n m\narm add k : 1\ngo count + n k m\narm sum a b : 1\ngo count + a b m\nbe rest\narm hit : 1\nend 'done",
    "be keeper a b c\narm add k : 1\nend 'done\nbe tally n\narm add k : < k n\ngo tally - n k\narm big a b c : a\nend 'done",
    "be plan\narm hit : 1\nend 'done\nbe tally n m\narm add k : 1\ngo tally k m",
)
TABLES = (
    ((), ()),
    ((("count", ("count", (("of", "n"), ("is", 7)))), ("rest", ("rest", ()))),
     ((("add", 1), ("add", (("plus", ("of", "a"), ("is", 1)),))), (("add", 2), ("sum", (("of", "b"), ("of", "a")))), (("out", 0), ("hit", ())))),
    ((("count", ("tally", (("minus", ("of", "n"), ("of", "m")),))),),
     ((("add", 1), ("add", (("of", "a"),))), (("sum", 2), ("big", (("of", "b"), ("of", "none"), ("of", "a")))))),
    ((("keeper", ("plan", ())), ("tally", ("tally", (("of", "n"), ("of", "n"))))),
     ((("add", 1), ("hit", ())), (("big", 3), ("add", (("of", "c"),))))),
)
LIBRARY = tuple([(read_code(text), table) for text, table in zip(TEXTS, TABLES)])

# What is no thing of any kind that a house knows: none of these is a number, a state, a row, a shape or an address.
ANY = (*NOTHINGS, -1, -TOP, 1000, TOP, "a", "edition", ("at", True, 0), ("at", 0, False), ("at", 0, -1), ["at", 0, 0], ("at", 0, 0, 0), LIBRARY)


def at(n, house=0):
    """The address of number n."""
    return ("at", house, n)


def life(what=("rest", (), 0), mails=(), mark=0, has=(), known=(), watches=(), traps=False, since=0):
    """A life, mostly a plain one."""
    return (what, (mark, mails), has, known, watches, traps, since)


def caught(case, error, deed, *things, **named):
    """The error by which the deed is refused, caught by its very class."""
    with case.assertRaises(error) as held:
        deed(*things, **named)
    case.assertIs(type(held.exception), error)
    return held.exception


class Founder(Maker):
    """Made-up libraries, states and plans of them."""

    def selfless(self, within=0):
        sort = self.chance.randrange(7)
        if sort < 2 and within < 3:
            return (self.one_of(("plus", "minus", "less", "same")), self.selfless(within + 1), self.selfless(within + 1))
        return ("is", self.value()) if sort < 4 else ("of", self.one_of(("a", "b", "c", "n", "hit", "red")))

    def selflesses(self, many):
        return tuple([self.selfless() for _ in range(many)])

    def table(self, elder, own):
        """A table between these codes, that leads mostly."""
        states = []
        for behaviour in elder:
            if self.chance.randrange(4):
                other = self.one_of(own)
                states.append((behaviour[0], (other[0], self.selflesses(len(other[1])))))
        keys = sorted({(self.one_of(("hit", "bye", "a")), self.chance.randrange(4)) for _ in range(self.chance.randrange(9))})
        letters = tuple([(key, (self.one_of(("hit", "bye", "a")), self.selflesses(self.chance.randrange(4)))) for key in keys])
        return (tuple(states), letters)

    def library(self, most=4):
        """A library of so many editions at the most."""
        codes = [self.code() for _ in range(self.chance.randrange(1, most + 1))]
        tables = [((), ()), *[self.table(codes[k - 1], codes[k]) for k in range(1, len(codes))]]
        return tuple(zip(codes, tables))

    def state(self, library, edition=None):
        """A state of an edition of the library."""
        edition = self.chance.randrange(len(library)) if edition is None else edition
        behaviour = self.one_of(library[edition][0])
        return (behaviour[0], self.values(len(behaviour[1])), edition)

    def row(self, library, within=0):
        """A row: a state, a plan, or None."""
        sort = self.chance.randrange(6)
        if sort == 0:
            return None
        if sort < 3 and within < 3:
            return self.plan(library, within + 1)
        return self.state(library)

    def plan(self, library, within=0):
        """A plan of the library."""
        rows = tuple([self.row(library, within) for _ in range(self.chance.randrange(5))])
        return ("plan", self.one_of(("one", "all", "rest")), self.chance.randrange(4), self.chance.randrange(1, 10), rows)
