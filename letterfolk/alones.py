"""A house that goes alone by its inputs, as a trace tells them."""

from letterfolk.errors import NoStep
from letterfolk.kinds import is_count
from letterfolk.landgrounds import LandGround
from letterfolk.packets import is_packet
from letterfolk.steps import do_step, lets_step

# How many numbers stand behind each word.
NUMBERS = {"act": 1, "tick": 0, "load": 1, "part": 1, "meet": 1, "fall": 0}


def is_input(library, thing):
    """Whether the thing is an input."""
    if not isinstance(thing, tuple) or not thing or not isinstance(thing[0], str):
        return False
    if thing[0] == "given":
        return len(thing) == 2 and is_packet(library, thing[1])
    return NUMBERS.get(thing[0]) == len(thing) - 1 and all([is_count(number) for number in thing[1:]])


class Alone:
    """House h from a land at the beginning on, which knows of the others just how many they are."""

    def __init__(self, first, h):
        self.ground = LandGround(first)
        self.h = h

    def do(self, given):
        """The events of an input, as they stand in a view; refused with NoStep where it can't be done."""
        ground, word = self.ground, given[0]
        ground.events = []
        if word == "given":
            self.take_packet(given[1])
            return tuple(ground.events)
        step = (word, self.h, *given[1:])
        lets_step(ground, step)
        if word not in ("part", "meet", "fall"):
            do_step(ground, step)
            return tuple(ground.events)
        self.turn_links(given)
        # Letters lost on their way are in nobody's view.
        return tuple([event for event in ground.events if event[0] != "lost" or event[4] != "parted"])

    def take_packet(self, packet):
        """A packet is given here, the next one of its posts."""
        link, sender, to, number, thing = packet
        if to[1] != self.h or self.ground.link_of(self.h, sender[1]) != link:
            raise NoStep("packet")
        row = self.ground.row_of(sender, to)
        if row.given != number:
            raise NoStep("packet")
        row.given += 1
        self.ground.give(sender, to, thing)

    def turn_links(self, given):
        """This house's half of a part, a meet or a fall."""
        if given[0] == "part":
            self.ground.separate(self.h, given[1])
            self.ground.leave(self.h, given[1])
        elif given[0] == "meet":
            self.ground.unite(self.h, given[1])
            self.ground.greet(self.h, given[1])
        else:
            self.ground.empty(self.h)
            for other in self.ground.linked_to(self.h):
                self.ground.separate(self.h, other)
            self.ground.make_root(self.h)
