"""Made-up libraries whose folk do much, made-up roots of them, and made-up runs of their lands."""

from founding import Founder
from letterfolk.errors import NoStep
from letterfolk.landsteps import ready_steps, step

HEADS = {"boss": ("a", "b"), "busy": ("a",), "idle": (), "work": ("a", "b")}
TAGS = ("hit", "bye", "exit", "down", "unseen")
ONE = ("is", 1)


class Lively(Founder):
    """Code that sends, makes, links and ends often, to addresses where somebody may live."""

    houses = 2

    def address(self):
        return ("at", self.chance.randrange(self.houses + (self.chance.randrange(8) == 0)), self.chance.randrange(7))

    def many_of(self, tag):
        """How many values a letter of the tag has, mostly."""
        if self.chance.randrange(8) == 0:
            return self.chance.randrange(3)
        return {"hit": 1, "bye": 0}.get(tag, 2)

    def someone(self):
        sort = self.chance.randrange(8)
        if sort < 4:
            return ("is", self.address())
        return ("self",) if sort == 4 else ("of", self.one_of(("a", "b", "x", "y")))

    def plain_sum(self):
        sort = self.chance.randrange(6)
        if sort < 2:
            return ("of", self.one_of(("a", "b", "x", "y")))
        if sort == 2:
            return ("self",)
        return ("is", self.value()) if sort < 5 else ("minus", ("of", "a"), ("is", 1))

    def plain_sums(self, many):
        return tuple([self.plain_sum() for _ in range(many)])

    def act(self, heads):
        sort = self.chance.randrange(20)
        if sort < 8:
            tag = self.one_of(("hit", "hit", "bye"))
            return ("send", self.someone(), tag, self.plain_sums(self.many_of(tag)))
        if sort < 10:
            behaviour = self.one_of(sorted(heads))
            how = self.one_of(("free", "linked", "watched"))
            return ("make", self.one_of(("x", "y")), behaviour, self.plain_sums(len(heads[behaviour])), how)
        if sort < 12:
            return (self.one_of(("link", "watch", "link", "unlink")), self.someone())
        if sort < 14:
            return ("trap", ("is", self.one_of((0, 1, 1))))
        if sort < 16:
            return ("name", self.one_of(("red", "blue")), self.someone())
        return ("ask", "x", self.one_of(("red", "blue"))) if sort < 18 else ("tell", self.plain_sum())

    def acts(self, heads):
        return tuple([self.act(heads) for _ in range(self.chance.randrange(5))])

    def last(self, heads):
        if self.chance.randrange(12) == 0:
            return ("end", ("is", self.one_of(("done", "odd", "worse"))))
        behaviour = self.one_of(sorted(heads))
        return ("go", behaviour, self.plain_sums(len(heads[behaviour])))

    def arm(self, heads):
        tag = self.one_of((*TAGS, "hit", "hit", "bye"))
        names = ("x", "y")[:self.many_of(tag)]
        guard = self.one_of((ONE, ONE, ONE, ("of", "a"), ("less", ("of", "a"), ("of", "x"))))
        return (tag, names, guard, self.acts(heads), self.last(heads))

    def code(self):
        heads = {name: HEADS[name] for name in self.chance.sample(sorted(HEADS), self.chance.randrange(2, 5))}
        code = []
        for name in sorted(heads):
            arms = tuple([self.arm(heads) for _ in range(self.chance.randrange(1, 5))])
            late = None
            if self.chance.randrange(6):
                late = (("is", self.chance.randrange(4)), self.acts(heads), self.last(heads))
            code.append((name, heads[name], arms, late))
        return tuple(code)

    def table(self, elder, own):
        states = []
        for behaviour in elder:
            other = self.one_of(own)
            if self.chance.randrange(3):
                states.append((behaviour[0], (other[0], self.selflesses(len(other[1])))))
        keys = sorted({(tag, self.many_of(tag)) for tag in self.chance.sample(TAGS, self.chance.randrange(6))})
        letters = [(key, (self.one_of((key[0], key[0], self.one_of(TAGS))), self.selflesses(key[1]))) for key in keys]
        return (tuple(states), tuple(letters))

    def row(self, library, within=0):
        sort = self.chance.randrange(9)
        if sort == 0:
            return None
        return self.plan(library, within + 1) if sort < 3 and within < 3 else self.state(library)

    def plan(self, library, within=0):
        rows = tuple([self.row(library, within) for _ in range(self.chance.randrange(2, 5))])
        return ("plan", self.one_of(("one", "all", "rest")), self.chance.randrange(6), self.chance.randrange(1, 6), rows)

    def roots(self, library):
        """A root for each house, mostly one that is somebody."""
        found = []
        for _ in range(self.houses):
            sort = self.chance.randrange(8)
            if sort == 0:
                found.append(None)
            else:
                found.append(self.plan(library[:1]) if sort < 7 else self.state(library, 0))
        return tuple(found)

    def step(self, land):
        """A step, mostly one that can be done."""
        chance = self.chance
        sort = chance.randrange(60)
        h = chance.randrange(self.houses)
        ready = ready_steps(land)
        if sort < 40 and ready:
            return self.one_of(ready)
        if sort < 50:
            return ("tick", h)
        if sort < 53 and land[5]:
            return ("again", chance.randrange(len(land[5])))
        if sort < 57 and self.houses > 1:
            a, b = chance.sample(range(self.houses), 2)
            return (self.one_of(("meet", "meet", "part")), a, b)
        if sort == 57:
            return ("fall", h)
        return ("load", h, land[2][h][3][-1] + 1)

    def steps(self, land, many, most=40):
        """(steps, lands, log): so many steps at the most, and the land behind each, as long as few folk live."""
        steps, lands, log = [], [land], []
        for _ in range(many):
            thing = self.step(land)
            try:
                behind, events = step(land, thing)
            except NoStep:
                continue
            if max([len(house[4]) for house in behind[2]]) > most:
                break
            land = behind
            steps.append(thing)
            lands.append(land)
            log.append((thing, events))
        return tuple(steps), tuple(lands), tuple(log)
