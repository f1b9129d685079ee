"""Plain lands, opened: things stand in rows, in order, from one post to another."""

from letterfolk.grounds import Ground, posts_between


class PlainGround(Ground):
    """A plain land whose steps are done, by the tree."""

    def __init__(self, plain):
        library, roots, houses, pairs, rows = plain
        links = {(a, b): (link, up) for a, b, link, up in pairs}
        Ground.__init__(self, library, roots, houses, links, "tree")
        self.rows = {(sender, to): list(things) for sender, to, things in rows}

    def carry(self, sender, to, thing):
        """A thing comes behind the others of its row."""
        self.rows.setdefault((sender, to), []).append(thing)

    def cut(self, a, b):
        """(from, to, things) of the rows of two houses, either way, rising; they are gone."""
        own = posts_between(self.rows, a, b)
        found = [(*posts, tuple(self.rows[posts])) for posts in own]
        for posts in own:
            del self.rows[posts]
        return found

    def has_row(self, sender, to):
        """Whether something is on the way from post to post."""
        return (sender, to) in self.rows

    def come(self, sender, to):
        """The first thing of a row is given."""
        things = self.rows[(sender, to)]
        thing = things.pop(0)
        if not things:
            del self.rows[(sender, to)]
        self.give(sender, to, thing)

    def told(self):
        """The plain land as a tuple."""
        pairs = tuple([(a, b, *self.links[(a, b)]) for a, b in sorted(self.links)])
        rows = tuple([(*posts, tuple(self.rows[posts])) for posts in sorted(self.rows)])
        return (self.library, tuple(self.roots), tuple(self.houses), pairs, rows)
