"""Texts read as plain things and as steps."""

from letterfolk.errors import NoText
from letterfolk.kinds import is_word
from letterfolk.linewords import address_of, number_of
from letterfolk.steps import is_step

CONSTANTS = {"-": None, "+": True, "/": False}


def _can_stand(word):
    """Whether the word writes a thing for itself."""
    if word in CONSTANTS or is_word(word):
        return True
    return number_of(word) is not None or address_of(word) is not None


def _thing_of(word):
    """The thing that a word writes."""
    if word in CONSTANTS:
        return CONSTANTS[word]
    if is_word(word):
        return word
    number = number_of(word)
    return address_of(word) if number is None else number


class ThingWords:
    """The things that the words of a line write, word by word; a word that can't stand is refused by its number."""

    def __init__(self, line):
        self.line = line
        self.read = 0
        # What is read so far: the things on top, then those of each bracket that is open.
        self.piles = [[]]

    def is_open(self):
        """Whether a bracket is open."""
        return len(self.piles) > 1

    def is_one(self):
        """Whether one whole thing, or more, is read."""
        return not self.is_open() and len(self.piles[0]) > 0

    def refuse(self):
        """The next word can't stand, or lacks."""
        raise NoText(self.line, self.read)

    def read_word(self, word):
        """Read the next word."""
        if word == "(":
            self.piles.append([])
        elif word == ")" and self.is_open():
            things = self.piles.pop()
            self.piles[-1].append(tuple(things))
        elif _can_stand(word):
            self.piles[-1].append(_thing_of(word))
        else:
            self.refuse()
        self.read += 1

    def whole(self):
        """All things; no bracket is open."""
        if self.is_open():
            self.refuse()
        return tuple(self.piles[0])


def read_thing(text, *, line=0):
    """The plain thing that the text writes."""
    words = ThingWords(line)
    for word in text.split(" "):
        if words.is_one():
            words.refuse()
        words.read_word(word)
    return words.whole()[0]


def _read_step(text, line):
    words = ThingWords(line)
    for word in text.split(" "):
        words.read_word(word)
    told = words.whole()
    if not is_step(told):
        raise NoText(line, 0)
    return told


def read_steps(text):
    """The steps that the text writes, a line each."""
    if text == "":
        return ()
    return tuple([_read_step(row, k) for k, row in enumerate(text.split("\n"))])
