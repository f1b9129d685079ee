"""What the tests of lands hand in: lands whose folk do acts that are written as lines, when told to by a tick."""

from founding import at, life
from housing import REST, VOID, house_of, library_of, told_of
from letterfolk.landruns import run
from letterfolk.lands import land_of
from letterfolk.landsteps import step
from letterfolk.wires import things_on_way

# Who is in the state it takes hit by telling it; who is in do does its acts when it is late, once, and is in it then.
IT = ("it", (), 0)
DO = ("do", (), 0)
HEAD = "be it\narm hit k : 1\ntell k\ngo it\narm exit who why : 1\ntell why\ngo it\narm down who why : 1\ntell why\ngo it"


def doers(*lines, last="go it"):
    """A library of one edition, whose do does these acts."""
    return library_of("\n".join(["be do\nlate 1", *lines, last, HEAD]))


def plan_of(*rows, way="one", most=3, within=5):
    """A plan of these rows."""
    return ("plan", way, most, within, rows)


def first_land(library, *roots):
    """The land at the beginning."""
    return land_of(library, roots)[0]


def behind(land, *steps):
    """The land behind the steps."""
    return run(land, steps, most=len(steps))[0]


def events_of(land, *steps):
    """The events of the last of the steps."""
    return step(behind(land, *steps[:-1]), steps[-1])[1]


def house_at(land, h):
    """A house of the land."""
    return land[2][h]


def life_at(land, h, n):
    """The life of number n of house h, None where nobody lives so."""
    return told_of(land[2][h], n)


def pair_of(land, a, b):
    """The pair of two houses."""
    return [pair for pair in land[3] if pair[:2] == (a, b)][0]


def letter(k, edition=0):
    """A letter hit as a thing on its way."""
    return ("letter", edition, ("hit", (k,)))
