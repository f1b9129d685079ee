"""What the tests of deeds of a house hand in: houses of folk, and one among them who does acts written as lines."""

from founding import at, life
from letterfolk.codereader import read_code

VOID = ((), ())
REST = ("rest", (), 0)
OTHERS = "be rest\narm hi : 1\ngo rest\nbe work n\narm hit k : 1\ngo work k\nlate 3\nend 'odd"


def library_of(*texts):
    """A library of editions of these texts, whose tables lead nothing."""
    return tuple([(read_code(text), VOID) for text in texts])


def house_of(folk, h=0, clock=5, made=20, loaded=(0,), words=()):
    """A house of these folk, lives by their numbers."""
    return (h, clock, made, loaded, tuple(sorted(folk.items())), tuple(sorted(words)))


def told_of(house, n):
    """The life of number n, None where nobody lives so."""
    return dict(house[4]).get(n)


def doer(*lines, last="go it n", wait=None):
    """A library whose it does these acts by a letter hit x, or, where it waits, when it is late."""
    head = "be it n\narm hit x : 1" if wait is None else f"be it n\nlate {wait}"
    return library_of("\n".join([head, *lines, last, OTHERS]))


def doing(mails=(), **more):
    """A life in the state it 3, with the letter hit 7 from number 9 ahead of other mails."""
    return life(("it", (3,), 0), mails=((at(9), 0, ("hit", (7,))), *mails), **more)


def keeper(*now, way="one", most=3, within=5, rows=None, past=()):
    """A keeper's value whose children have these numbers, None where none lives; each row is rest."""
    children = tuple([None if n is None else at(n) for n in now])
    return ("keeper", way, most, within, (REST,) * len(now) if rows is None else rows, children, past)
