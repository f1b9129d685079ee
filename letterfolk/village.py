"""A village: a land that goes from step to step, and back."""

from letterfolk.errors import NoBack
from letterfolk.fates import fates_of, losses_of
from letterfolk.kinds import is_count
from letterfolk.landruns import LIMIT
from letterfolk.lands import land_of
from letterfolk.landsteps import step
from letterfolk.plainpapers import plain_paper
from letterfolk.stories import story_of
from letterfolk.thingtexts import shown_steps
from letterfolk.traces import trace_of


class Village:
    """A land from its beginning on, with its log; it counts its deeds, those that begin and those that end."""

    def __init__(self, library, *, roots):
        self.library = library
        self.roots = roots
        self.now, _ = land_of(library, roots)
        # The lands behind the first steps, none of them at first.
        self.lands = [self.now]
        self.rows = []
        self.begun = 0
        self.ended = 0

    def do(self, thing):
        """The events of a step, any thing."""
        self.now, events = step(self.now, thing)
        self.lands.append(self.now)
        self.rows.append((thing, events))
        return events

    def step(self, thing):
        """Do a step, any thing; told are its events."""
        self.begun += 1
        try:
            return self.do(thing)
        finally:
            self.ended += 1

    def run(self, steps, *, most=LIMIT):
        """Do the first of the steps, so many at the most; told is how many."""
        self.begun += 1
        try:
            for thing in steps[:most]:
                self.do(thing)
            return len(steps[:most])
        finally:
            self.ended += 1

    def undo(self, times):
        """Undo the last steps, so many, any thing; told are they, the last one first."""
        if not is_count(times) or not 1 <= times <= len(self.rows):
            raise NoBack(times)
        first = len(self.rows) - times
        undone = [thing for thing, _ in self.rows[first:]]
        del self.rows[first:]
        del self.lands[first + 1:]
        self.now = self.lands[first]
        return tuple(undone[::-1])

    def back(self, *, times=1):
        """Undo the last steps, so many, any thing; told are they, the last one first."""
        self.begun += 1
        try:
            return self.undo(times)
        finally:
            self.ended += 1

    def then(self, k):
        """The land behind the first k steps, any thing."""
        if not is_count(k) or k >= len(self.lands):
            raise NoBack(k)
        return self.lands[k]

    def land(self):
        """The land that it has come to."""
        return self.now

    def steps(self):
        """All steps done."""
        return tuple([thing for thing, _ in self.rows])

    def log(self):
        """All steps done, each with its events."""
        return tuple(self.rows)

    def trace(self):
        """The trace of the log."""
        return trace_of(self.log(), houses=len(self.roots))

    def paper(self):
        """A plain paper of all steps, from the first land on."""
        return plain_paper(self.lands[0], self.steps())

    def fates(self):
        """What became of each letter sent."""
        return fates_of(self.log())

    def losses(self):
        """All losses of letters."""
        return losses_of(self.log())

    def story(self, address):
        """The story of an address, any thing."""
        return story_of(self.trace(), address, library=self.library, roots=self.roots)

    def counts(self):
        """(begun, ended): how many deeds began, and how many ended, refused ones too."""
        return (self.begun, self.ended)

    def __len__(self):
        return len(self.rows)

    def __str__(self):
        return str(shown_steps(self.steps()))

    def __eq__(self, other):
        if not isinstance(other, Village):
            return False
        return self.library == other.library and self.roots == other.roots and self.now == other.now
