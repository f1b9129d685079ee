"""Lands, opened: things go as numbered packets over wires, which may bring them in any order, and twice."""

from letterfolk.grounds import Ground, posts_between
from letterfolk.wires import first_packets, things_of


class Row:
    """How many things went from post to post over a link, how many were given, which came ahead of their turn."""

    def __init__(self, sent, given, kept):
        self.sent = sent
        self.given = given
        self.kept = dict(kept)

    def told(self, sender, to):
        """The row as a tuple."""
        kept = tuple([(number, self.kept[number]) for number in sorted(self.kept)])
        return (sender, to, self.sent, self.given, kept)


class LandGround(Ground):
    """A land whose steps are done, by rows of code."""

    def __init__(self, land):
        library, roots, houses, pairs, wires, came = land
        links = {(a, b): (link, up) for a, b, link, up, _ in pairs}
        Ground.__init__(self, library, roots, houses, links, "rows")
        self.rows = {(row[0], row[1]): Row(row[2], row[3], row[4]) for pair in pairs for row in pair[4]}
        self.wires = list(wires)
        self.came = list(came)

    def row_of(self, sender, to):
        """The row from post to post, a new one where nothing went so."""
        return self.rows.setdefault((sender, to), Row(0, 0, ()))

    def carry(self, sender, to, thing):
        """A packet goes onto the wires."""
        row = self.row_of(sender, to)
        packet = (self.link_of(sender[1], to[1]), sender, to, row.sent, thing)
        row.sent += 1
        self.wires.append(packet)
        self.events.append(("packed", packet))

    def rows_between(self, a, b):
        """The rows of two houses, either way, rising."""
        return [self.rows[posts].told(*posts) for posts in posts_between(self.rows, a, b)]

    def cut(self, a, b):
        """(from, to, things) that were on the way; the packets stay on the wires."""
        packets = first_packets(self.wires)
        link = self.link_of(a, b)
        rows = self.rows_between(a, b)
        found = []
        for row in rows:
            found.append((row[0], row[1], things_of(row, link, packets)))
            del self.rows[(row[0], row[1])]
        return found

    def word_of(self, packet):
        """What becomes of a packet that comes."""
        link, sender, to, number, _ = packet
        if self.link_of(sender[1], to[1]) != link:
            return "elder"
        row = self.row_of(sender, to)
        if number < row.given or number in row.kept:
            return "again"
        return "kept" if number > row.given else "taken"

    def give_next(self, link, sender, to, thing):
        """The next packet from post to post is given."""
        row = self.row_of(sender, to)
        packet = (link, sender, to, row.given, thing)
        row.given += 1
        self.events.append(("given", packet))
        self.give(sender, to, thing)

    def look_at(self, packet):
        """A packet that comes is given in its turn, with those kept behind it, or kept, or nothing."""
        link, sender, to, number, thing = packet
        word = self.word_of(packet)
        self.events.append(("came", packet, word))
        if word == "elder":
            return
        row = self.row_of(sender, to)
        if word == "kept":
            row.kept[number] = thing
        if word == "taken":
            self.give_next(link, sender, to, thing)
            while row.given in row.kept:
                self.give_next(link, sender, to, row.kept.pop(row.given))

    def come(self, k):
        """The packet of this number on the wires comes."""
        packet = self.wires.pop(k)
        self.came.append(packet)
        self.look_at(packet)

    def come_again(self, k):
        """The packet of this number among those that came comes again."""
        self.look_at(self.came[k])

    def told(self):
        """The land as a tuple."""
        pairs = []
        for a, b in sorted(self.links):
            pairs.append((a, b, *self.links[(a, b)], tuple(self.rows_between(a, b))))
        return (
            self.library, tuple(self.roots), tuple(self.houses), tuple(pairs), tuple(self.wires), tuple(self.came))
