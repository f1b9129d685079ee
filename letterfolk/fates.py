"""What became of each letter that was sent, by the log alone."""


def _fate(event, k):
    """((from, to, letter), fate) of an event of step k, None where it is no letter's fate."""
    if event[0] == "took":
        _, to, sender, _, letter, _ = event
        return (sender, to, letter), ("took", k)
    if event[0] == "lost":
        _, to, sender, letter, why = event
        return (sender, to, letter), ("lost", why, k)
    return None


class Letters:
    """The letters sent so far, in order, each with its fate, None where it has none yet."""

    def __init__(self):
        self.sent = []
        self.found = []
        self.waiting = {}

    def send(self, letter):
        """One more (from, to, letter)."""
        self.waiting.setdefault(letter, []).append(len(self.sent))
        self.sent.append(letter)
        self.found.append(None)

    def end(self, letter, fate):
        """The first such letter that has no fate yet has this one; where there is none, nothing."""
        places = self.waiting.get(letter, [])
        if places:
            self.found[places.pop(0)] = fate

    def told(self):
        """(from, to, letter, fate) of each."""
        return tuple([(*letter, fate) for letter, fate in zip(self.sent, self.found)])


def fates_of(log):
    """(from, to, letter, fate) of each letter sent, in order, but of those of the tag unseen."""
    letters = Letters()
    for k, (_, events) in enumerate(log):
        for event in events:
            if event[0] == "sent" and event[3][0] != "unseen":
                letters.send(event[1:])
            found = _fate(event, k)
            if found is not None:
                letter, fate = found
                letters.end(letter, fate)
    return letters.told()


def losses_of(log):
    """(k, to, from, letter, why) of each letter lost, in order, k the number of the step."""
    return tuple([(k, *event[1:]) for k, (_, events) in enumerate(log) for event in events if event[0] == "lost"])
