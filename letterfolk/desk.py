"""A desk: a village that is told rows, texts, and answers each with a text."""

from letterfolk.codereader import read_code
from letterfolk.editions import VOID_TABLE
from letterfolk.errors import NoCode, NoFolk, NoLine, NoText
from letterfolk.houses import life_of
from letterfolk.keepers import is_row
from letterfolk.landsteps import ready_steps
from letterfolk.linewords import address_of, is_figures
from letterfolk.thingreader import read_steps, read_thing
from letterfolk.thingtexts import shown_steps, shown_thing
from letterfolk.village import Village

BAR = " | "
NONE = "-"


def _lines(steps):
    """The steps, parted by bars, or the sign for none."""
    return BAR.join(shown_steps(steps).split("\n")) if steps else NONE


def _are_roots(library, thing):
    return isinstance(thing, tuple) and len(thing) > 0 and all([is_row(library, root) for root in thing])


def _new_village(rest):
    """The village of roots and lines of code; None where they are of no form."""
    roots_text, *lines = rest.split(BAR)
    try:
        library = ((read_code("\n".join(lines)), VOID_TABLE),)
        roots = read_thing(roots_text)
    except (NoText, NoCode):
        return None
    return Village(library, roots=roots) if _are_roots(library, roots) else None


def _steps_of(rest):
    """The steps, one at least, parted by bars; none where they are of no form."""
    try:
        return read_steps("\n".join(rest.split(BAR)))
    except NoText:
        return ()


def _state(village, address):
    houses = village.land()[2]
    if address[1] >= len(houses):
        raise NoFolk(address)
    try:
        return shown_thing(life_of(houses[address[1]], address[2])[0])
    except NoFolk:
        raise NoFolk(address) from None


def _back(village):
    return _lines(village.back())


def _many(village):
    return str(len(village))


def _quiet(village):
    return "no" if ready_steps(village.land()) else "yes"


def _ready(village):
    return _lines(ready_steps(village.land()))


def _plain(village):
    return str(sum([len(row) for row in village.paper()]))


# What each row of one word alone is answered by.
ASKED = {"back": _back, "steps": _many, "quiet": _quiet, "ready": _ready, "plain": _plain}


class Desk:
    """A village, none at first, behind rows of text; it counts rows begun and ended."""

    def __init__(self):
        self.village = None
        self.begun = 0
        self.ended = 0

    def say(self, row):
        """The answer to a row; one of no form is refused ahead of all else."""
        self.begun += 1
        try:
            answer = self.answer_to(row)
            if answer is None:
                raise NoLine(row)
            return answer
        finally:
            self.ended += 1

    def answer_to(self, row):
        """The answer to a row, None where it is of no form."""
        # A line end parts no words here, though it would part lines of code and steps.
        if "\n" in row or "" in row.split(" "):
            return None
        word, _, rest = row.partition(" ")
        if word == "open":
            return self.begin(rest)
        if self.village is None:
            return None
        if rest == "":
            return self.asked(word)
        return self.told(word, rest)

    def begin(self, rest):
        """A new village."""
        village = _new_village(rest)
        if village is None:
            return None
        self.village = village
        return "ok"

    def asked(self, word):
        """The answer to a row of one word."""
        if word not in ASKED:
            return None
        action = ASKED[word]
        return action(self.village)

    def told(self, word, rest):
        """The answer to a row of more words."""
        if word == "do":
            steps = _steps_of(rest)
            return str(self.village.run(steps)) if steps else None
        if word == "back" and is_figures(rest):
            return _lines(self.village.back(times=int(rest)))
        address = address_of(rest)
        if word == "state" and address is not None:
            return _state(self.village, address)
        return None

    def counts(self):
        """(begun, ended): how many rows began, and how many ended, refused ones too."""
        return (self.begun, self.ended)
