"""In which order the inputs of all views of a trace can be put one behind the other."""

FELLOWS = (("meet", "meet"), ("part", "part"), ("fall", "part"), ("part", "fall"))


def packed_places(views):
    """For each packet that was packed the place (h, j) of the input by which it was."""
    found = {}
    for h, view in enumerate(views):
        for j, (_, events) in enumerate(view):
            for event in events:
                if event[0] == "packed":
                    found[event[1]] = (h, j)
    return found


def _links_of(view, other):
    """(j, word) of each part and meet with the other house, and of each fall while linked to it."""
    found = []
    up = True
    for j, (given, _) in enumerate(view):
        if given[0] == "fall" and up:
            found.append((j, "fall"))
            up = False
        elif given[0] in ("part", "meet") and given[1] == other:
            found.append((j, given[0]))
            up = given[0] == "meet"
    return found


def fellow_rows(views, a, b):
    """(j, i) for each two fellows, input j of house a and i of house b; None where they aren't fellows one by one."""
    ones, others = _links_of(views[a], b), _links_of(views[b], a)
    if len(ones) != len(others):
        return None
    if not all([(one[1], other[1]) in FELLOWS for one, other in zip(ones, others)]):
        return None
    return [(one[0], other[0]) for one, other in zip(ones, others)]


class Order:
    """The inputs of views whose links are right, put one behind the other as far as they can be."""

    def __init__(self, views):
        self.views = views
        self.packed = packed_places(views)
        self.fellows = {}
        for a in range(len(views)):
            for b in range(a + 1, len(views)):
                for j, i in fellow_rows(views, a, b):
                    self.fellows.setdefault((a, j), []).append((b, i))
                    self.fellows.setdefault((b, i), []).append((a, j))
        self.heads = [0 for _ in views]
        self.groups = []
        self.put_all()

    def input_at(self, place):
        """The input at a place (h, j)."""
        h, j = place
        return self.views[h][j][0]

    def group_of(self, place):
        """The places of all that are done at once with the input at this one, a fall ahead of its parts."""
        fellows = self.fellows.get(place, [])
        for other in fellows:
            if self.input_at(other)[0] == "fall":
                return [other, *self.fellows[other]]
        return [place, *fellows]

    def is_packed(self, given):
        """Whether the packet of an input, where it has one, was packed by what is put."""
        if given[0] != "given":
            return True
        h, j = self.packed[given[1]]
        return j < self.heads[h]

    def put_next(self, h):
        """Whether the next input of a house, with its fellows, could be put."""
        if self.heads[h] == len(self.views[h]):
            return False
        place = (h, self.heads[h])
        group = self.group_of(place)
        if not self.is_packed(self.input_at(place)) or any([self.heads[other] != j for other, j in group]):
            return False
        for other, _ in group:
            self.heads[other] += 1
        self.groups.append(group)
        return True

    def put_all(self):
        """Put as many as can be put."""
        going = True
        while going:
            going = False
            for h in range(len(self.views)):
                while self.put_next(h):
                    going = True

    def is_whole(self):
        """Whether all could be put."""
        return self.heads == [len(view) for view in self.views]
