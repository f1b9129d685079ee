"""The words of one line of a text, taken one by one from the first on, each by its form."""

from letterfolk.errors import NoText
from letterfolk.kinds import is_word

FIGURES = 12
WITHIN = 12
PAIRING_OF = {"+": "plus", "-": "minus", "<": "less", "=": "same"}


def is_figures(text):
    """Whether the text writes a number from 0 on: twelve figures at most, no 0 ahead but 0 alone."""
    if not 1 <= len(text) <= FIGURES or not all(["0" <= sign <= "9" for sign in text]):
        return False
    return text == "0" or text[0] != "0"


def number_of(word):
    """The number that the word writes, None where it writes none."""
    if is_figures(word):
        return int(word)
    if word.startswith("-") and word != "-0" and is_figures(word[1:]):
        return -int(word[1:])
    return None


def address_of(word):
    """The address that the word writes, None where it writes none."""
    house, _, n = word[1:].partition(".")
    if word.startswith("@") and is_figures(house) and is_figures(n):
        return ("at", int(house), int(n))
    return None


def value_of_word(word):
    """The value that the word writes, None where it writes none."""
    if word.startswith("'") and is_word(word[1:]):
        return word[1:]
    if word.startswith("@"):
        return address_of(word)
    return number_of(word)


class LineWords:
    """The words of a line; a word that can't stand, or lacks, is refused by its number."""

    def __init__(self, line, text):
        self.line = line
        self.words = text.split(" ")
        self.at = 0

    def has_more(self):
        """Whether words are left."""
        return self.at < len(self.words)

    def seen(self):
        """The next word; a void one where it lacks, which can't stand anywhere."""
        return self.words[self.at] if self.has_more() else ""

    def take_one_of(self, choices):
        """The next word, which is one of these."""
        found = self.seen()
        if found not in choices:
            raise NoText(self.line, self.at)
        self.at += 1
        return found

    def take_name(self, ahead=()):
        """The next word, a name that isn't among those ahead."""
        found = self.seen()
        if not is_word(found) or found in ahead:
            raise NoText(self.line, self.at)
        self.at += 1
        return found

    def take_value(self):
        """The value that the next word writes."""
        found = value_of_word(self.seen())
        if found is None:
            raise NoText(self.line, self.at)
        self.at += 1
        return found

    def take_sum(self, within=0):
        """The sum that the next words write, within so many others."""
        found = self.seen()
        if found in PAIRING_OF and within < WITHIN:
            self.at += 1
            one = self.take_sum(within + 1)
            return (PAIRING_OF[found], one, self.take_sum(within + 1))
        if found == "@":
            self.at += 1
            return ("self",)
        if is_word(found):
            self.at += 1
            return ("of", found)
        return ("is", self.take_value())

    def take_sums(self):
        """The sums that all words left write."""
        sums = []
        while self.has_more():
            sums.append(self.take_sum())
        return tuple(sums)

    def take_end(self):
        """No word is left."""
        if self.has_more():
            raise NoText(self.line, self.at)
