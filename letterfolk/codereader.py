"""Texts read as code."""

from letterfolk.errors import NoText
from letterfolk.linewords import LineWords
from letterfolk.looks import lets_code
from letterfolk.trees import HOWS

ACTS = ("send", "make", "link", "unlink", "watch", "trap", "name", "ask", "tell")
NEXTS = ("go", "end")


def _read_send(words):
    to = words.take_sum()
    tag = words.take_name()
    return ("send", to, tag, words.take_sums())


def _read_make(words):
    name = words.take_name()
    behaviour = words.take_name()
    how = words.take_one_of(HOWS)
    return ("make", name, behaviour, words.take_sums(), how)


def _read_act(words):
    """The act or the next that the line writes."""
    word = words.take_one_of(ACTS + NEXTS)
    if word == "send":
        return _read_send(words)
    if word == "make":
        return _read_make(words)
    if word == "go":
        behaviour = words.take_name()
        return ("go", behaviour, words.take_sums())
    if word == "name":
        name = words.take_name()
        return ("name", name, words.take_sum())
    if word == "ask":
        name = words.take_name()
        return ("ask", name, words.take_name())
    return (word, words.take_sum())


def _names_to(words, stop):
    """The names up to a word that is stop, or up to the end of the line where stop is None."""
    names = []
    while words.has_more() and words.seen() != stop:
        names.append(words.take_name(names))
    return tuple(names)


class CodeLines:
    """The lines of a text, read one behind the other."""

    def __init__(self, text):
        self.lines = text.split("\n")
        self.number = 0

    def has_more(self):
        """Whether lines are left."""
        return self.number < len(self.lines)

    def begins(self, word):
        """Whether there is a next line, and it begins by this word."""
        return self.has_more() and self.lines[self.number].split(" ")[0] == word

    def take_line(self):
        """The words of the next line."""
        if not self.has_more():
            raise NoText(self.number, 0)
        words = LineWords(self.number, self.lines[self.number])
        self.number += 1
        return words

    def read_body(self):
        """Acts, and the next behind them."""
        acts = []
        while True:
            words = self.take_line()
            found = _read_act(words)
            words.take_end()
            if found[0] in NEXTS:
                return tuple(acts), found
            acts.append(found)

    def read_arm(self):
        """An arm with its lines."""
        words = self.take_line()
        words.take_one_of(("arm",))
        tag = words.take_name()
        names = _names_to(words, ":")
        words.take_one_of((":",))
        guard = words.take_sum()
        words.take_end()
        acts, last = self.read_body()
        return (tag, names, guard, acts, last)

    def read_late(self):
        """A late with its lines."""
        words = self.take_line()
        words.take_one_of(("late",))
        amount = words.take_sum()
        words.take_end()
        acts, last = self.read_body()
        return (amount, acts, last)

    def read_behaviour(self):
        """A behaviour with its lines."""
        words = self.take_line()
        words.take_one_of(("be",))
        name = words.take_name()
        params = _names_to(words, None)
        arms = []
        while self.begins("arm"):
            arms.append(self.read_arm())
        late = self.read_late() if self.begins("late") else None
        return (name, params, tuple(arms), late)


def read_code(text):
    """The code that the text writes."""
    lines = CodeLines(text)
    behaviours = []
    while lines.has_more():
        behaviours.append(lines.read_behaviour())
    code = tuple(behaviours)
    lets_code(code)
    return code
