"""Points 7, 31, 37, 51, 65 and 72: what holds between the steps of all runs, on made-up ones."""

import unittest
from collections import Counter

from founding import at
from letterfolk.fates import fates_of, losses_of
from letterfolk.keepers import keeps
from letterfolk.lands import land_of
from letterfolk.leading import letter_led
from letterfolk.shapechecker import lets_shape
from letterfolk.shapes import shape_of, sheet_of
from letterfolk.wires import things_on_way
from living import Lively


def runs(seed, many, long=70, editions=3):
    """(library, lands, log) of made-up runs."""
    maker = Lively(seed)
    for k in range(many):
        maker.houses = 1 + k % 3
        library = maker.library(editions)
        land, _ = land_of(library, maker.roots(library))
        _, lands, log = maker.steps(land, long)
        yield library, lands, log


def lives_of(land):
    """(address, life) of all who live."""
    return [(at(n, house[0]), life) for house in land[2] for n, life in house[4]]


class Houses(unittest.TestCase):
    """Points 37 and 51."""

    def rising(self, things):
        self.assertEqual(list(things), sorted(set(things)))

    def life(self, house, lives, n):
        (mark, mails), has, known, watches = lives[n][1:5]
        me = at(n, house[0])
        self.assertLess(n, house[2])
        self.assertLessEqual(mark, len(mails))
        for things in (has, known, watches):
            self.rising(things)
        for _, h, other in watches:
            if h == house[0]:
                self.assertIn(me, lives[other][3])

    def keeper(self, sheet, address, what):
        self.assertGreater(lets_shape(sheet, address, shape_of(sheet, address)), 0)
        self.assertLessEqual(len(what[6]), what[2])

    def test_between_steps(self):
        counts = {"lives": 0, "keepers": 0, "words": 0, "watched": 0}
        for _, lands, _ in runs(37, 60):
            for land in lands:
                for house in land[2]:
                    lives, sheet = dict(house[4]), sheet_of(house)
                    self.rising(house[5])
                    own = [address for _, address in house[5] if address[1] == house[0]]
                    for _, _, n in own:
                        self.assertIn(n, lives)
                    counts["words"] += len(own)
                    for n, life in house[4]:
                        self.life(house, lives, n)
                        counts["lives"] += 1
                        counts["watched"] += len(life[4])
                        if keeps(life[0]):
                            self.keeper(sheet, at(n, house[0]), life[0])
                            counts["keepers"] += 1
                        else:
                            self.assertIn(life[0][2], house[3])
        self.assertGreater(min(counts.values()), 500)


class Letters(unittest.TestCase):
    def test_each_is_taken_waits_or_is_lost(self):
        """Points 7 (M1), 65 and 72: what has no fate waits in a mailbox or is on the way, as many of each."""
        found = Counter()
        for _, lands, log in runs(72, 60):
            for k in (len(log) // 2, len(log)):
                told = fates_of(log[:k])
                waiting = Counter([row[:3] for row in told if row[3] is None])
                there = Counter()
                for address, life in lives_of(lands[k]):
                    there.update([(sender, address, letter) for sender, _, letter in life[1][1] if sender is not None and letter[0] != "unseen"])
                for sender, to, things in things_on_way(lands[k]):
                    letters = [thing for thing in things if thing[0] == "letter" and thing[1] is not None]
                    there.update([(sender, to, letter) for _, _, letter in letters if letter[0] != "unseen"])
                    found["on the way"] += len(letters)
                self.assertEqual(waiting, there)
                found.update([row[3] and row[3][0] for row in told])
        self.assertGreater(min(found.values()), 10)
        self.assertEqual(set(found), {None, "took", "lost", "on the way"})

    def test_each_mail_that_came_is_taken_is_there_or_was_lost_once(self):
        """Point 37: what was in a mailbox and is there no more was taken, or lost from there."""
        for _, lands, log in runs(38, 60):
            for k in range(len(log)):
                before, behind = Counter(), Counter()
                for address, life in lives_of(lands[k]):
                    before.update([(address, mail) for mail in life[1][1]])
                for address, life in lives_of(lands[k + 1]):
                    behind.update([(address, mail) for mail in life[1][1]])
                gone = sum((before - behind).values())
                told = [event for event in log[k][1] if event[0] == "took" or event[0] == "lost" and event[4] in ("unseen", "ended", "fallen")]
                self.assertLessEqual(gone, len(told))

    def test_who_takes_one_takes_it_as_the_tables_led_it(self):
        """Point 7 (M3)."""
        led, unseen = 0, 0
        for library, lands, log in runs(39, 150):
            for k, (_, events) in enumerate(log):
                # One takes at the most one letter in a step, ahead of all that comes of it.
                states = dict([(address, life[0]) for address, life in lives_of(lands[k])])
                for event in events:
                    if event[0] == "took":
                        _, to, _, edition, letter, read = event
                        own = states[to][2]
                        self.assertEqual(read, letter if edition is None else letter_led(library, letter, edition=edition, to=own))
                        led += edition is not None and edition < own
                    if event[0] == "lost" and event[4] == "unseen":
                        unseen += 1
            self.assertEqual([row for row in losses_of(log) if row[4] == "unseen"], [
                (k, *event[1:]) for k, (_, events) in enumerate(log) for event in events if event[0] == "lost" and event[4] == "unseen"])
        self.assertGreater(min(led, unseen), 5)


class Numbers(unittest.TestCase):
    def test_nobody_is_made_twice(self):
        for _, _, log in runs(40, 40):
            made = [event[1] for _, events in log for event in events if event[0] == "made"]
            ended = [event[1] for _, events in log for event in events if event[0] == "ended"]
            self.assertEqual((len(made), len(ended)), (len(set(made)), len(set(ended))))


if __name__ == "__main__":
    unittest.main()
