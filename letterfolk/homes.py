"""Houses and lives opened, so that deeds can turn them; closed again they are told as tuples."""

from letterfolk.beginnings import begun
from letterfolk.keepers import keeps
from letterfolk.rising import with_one, without


class Life:
    """A life: its state or keeper's value, its mailbox, and whom it has, is known by, and watches."""

    def __init__(self, life):
        self.what, mailbox, self.has, self.known, self.watches, self.traps, self.since = life
        self.mark, mails = mailbox
        self.mails = list(mails)

    def told(self):
        """The life as a tuple."""
        mailbox = (self.mark, tuple(self.mails))
        return (self.what, mailbox, self.has, self.known, self.watches, self.traps, self.since)


class Home:
    """A house with the events of a deed, and what goes out by it."""

    def __init__(self, house):
        self.h, self.clock, self.made, self.loaded, folk, self.words = house
        self.folk = {n: Life(life) for n, life in folk}
        self.events = []
        self.outs = []

    def house(self):
        """The house as a tuple."""
        folk = tuple([(n, self.folk[n].told()) for n in sorted(self.folk)])
        return (self.h, self.clock, self.made, self.loaded, folk, self.words)

    def told(self):
        """(house, events, outs): what has come of the deed."""
        return self.house(), tuple(self.events), tuple(self.outs)

    def around(self):
        """The next number, who lives here, and the words with whom has them."""
        return (self.made, tuple(sorted(self.folk)), self.words)

    def address_of(self, n):
        """The address of number n."""
        return ("at", self.h, n)

    def has_here(self, address):
        """Whether the address is of this house, whether somebody lives there or not."""
        return address[1] == self.h

    def living(self, address):
        """The life of the address, None where nobody of this house lives there."""
        return self.folk.get(address[2]) if self.has_here(address) else None

    def give(self, sender, to, edition, letter):
        """A letter to an address of this house."""
        life = self.living(to)
        if life is None:
            self.events.append(("lost", to, sender, letter, "gone"))
        elif keeps(life.what):
            self.events.append(("lost", to, sender, letter, "keeper"))
        else:
            life.mails.append((sender, edition, letter))

    def settle_in(self, address, what, by):
        """One more lives here, made by this one."""
        self.events.append(("made", address, by, what))
        self.folk[address[2]] = Life((what, (0, ()), (), (), (), False, self.clock))

    def tie(self, one, other):
        """Two of this house have one another."""
        for first, second in ((one, other), (other, one)):
            life = self.living(first)
            life.has = with_one(life.has, second)

    def begin(self, row, by=None):
        """The lives of a row, no None, by a keeper, or by None."""
        lives, behind = begun(row, house=self.h, n=self.made, by=by)
        for address, what, keeper in lives:
            self.settle_in(address, what, keeper)
            if keeper is not None:
                self.tie(address, keeper)
        self.made = behind

    def put_word(self, word, address):
        """One of this house has the word from then on, and others are told so."""
        self.words = with_one(self.words, (word, address))
        self.outs.append((None, None, ("word", word, address, True)))

    def drop_words(self, address):
        """One of this house has none of its words any more, and others are told so."""
        words = [word for word, other in self.words if other == address]
        for word in words:
            self.events.append(("unnamed", address, word))
            self.words = without(self.words, (word, address))
            self.outs.append((None, None, ("word", word, address, False)))
