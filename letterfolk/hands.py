"""Deeds, one behind the other, with what they change around: who lives, who has which word, what names have."""

from letterfolk.kinds import is_above_nothing, is_address, is_word
from letterfolk.sums import bound


def whom(words, word):
    """The least address that has the word, 0 where none has it."""
    for other, address in words:
        if other == word:
            return address
    return 0


class Hands:
    """The deeds of one who takes a letter or is late, each by the worths of its sums."""

    def __init__(self, address, edition, around, bindings):
        self.address = address
        self.edition = edition
        self.bindings = bindings
        self.next_number, alive, words = around
        self.alive = list(alive)
        self.words = list(words)
        self.deeds = []

    def bind(self, name, value):
        """The name has this value from then on."""
        self.bindings = bound(self.bindings, names=(name,), values=(value,))

    def send(self, to, tag, values):
        """A letter to the worth."""
        if is_address(to):
            self.deeds.append(("send", to, (tag, values)))

    def make(self, name, behaviour, values, how):
        """One more in the house; the name has its address."""
        address = ("at", self.address[1], self.next_number)
        self.deeds.append(("make", address, (behaviour, values, self.edition), how))
        self.alive.append(self.next_number)
        self.next_number += 1
        self.bind(name, address)

    def reach(self, word, to):
        """A link, unlink or watch, by its word, of another one."""
        if is_address(to) and to != self.address:
            self.deeds.append((word, to))

    def trap(self, value):
        """Whether it traps from then on."""
        self.deeds.append(("trap", is_above_nothing(value)))

    def tell(self, value):
        """The value is told."""
        self.deeds.append(("tell", value))

    def give_word(self, word, to):
        """One who lives in this house has the word."""
        if not is_address(to) or to[1] != self.address[1] or to[2] not in self.alive:
            return
        if (word, to) not in self.words:
            self.deeds.append(("name", word, to))
            self.words = sorted([*self.words, (word, to)])

    def ask(self, name, word):
        """The name has whom the word has."""
        value = whom(self.words, word)
        self.deeds.append(("ask", word, value))
        self.bind(name, value)

    def whole(self, last):
        """All deeds, and the next behind them."""
        return tuple(self.deeds), last

    def go(self, behaviour, values):
        """The whole where it is in this state from then on."""
        return self.whole(("go", (behaviour, values, self.edition)))

    def end(self, value):
        """The whole where it ends by the value, or by odd."""
        return self.whole(("end", value if is_word(value) else "odd"))
