"""Point 72: what became of each letter sent, and all losses, by the log."""

import unittest

from founding import Founder, at
from letterfolk.fates import fates_of, losses_of
from making import kinds_of

A, B, C = at(0), at(1), ("at", 1, 0)
HIT, BYE, UNSEEN = ("hit", (1,)), ("bye", ()), ("unseen", (("at", 0, 1), "hit"))
ACT, TICK = ("act", 0, 0), ("tick", 0)


def sent(sender, to, letter=HIT):
    return ("sent", sender, to, letter)


def took(to, sender, letter=HIT, edition=0, read=None):
    return ("took", to, sender, edition, letter, letter if read is None else read)


def lost(to, sender, letter=HIT, why="gone"):
    return ("lost", to, sender, letter, why)


def log(*rows):
    """A log with these events for each step."""
    return tuple([(ACT, row) for row in rows])


class FatesOf(unittest.TestCase):
    def check(self, steps, *told):
        self.assertEqual(fates_of(steps), told)

    def test_none_sent(self):
        self.check(())
        self.check(log((), ()))
        self.check(log((("told", A, 3), ("went", A, ("rest", (), 0))), (("tick", 0, 1),)))

    def test_taken(self):
        self.check(log((sent(A, B),), (), (took(B, A),)), (A, B, HIT, ("took", 2)))
        self.check(log((sent(A, B), took(B, A))), (A, B, HIT, ("took", 0)))

    def test_lost(self):
        for why in ("gone", "keeper", "unseen", "ended", "parted", "fallen"):
            self.check(log((), (sent(A, C),), (lost(C, A, why=why),)), (A, C, HIT, ("lost", why, 2)))
        self.check(log((sent(A, C), lost(C, A))), (A, C, HIT, ("lost", "gone", 0)))

    def test_no_fate_yet(self):
        self.check(log((sent(A, B),), (sent(B, A, BYE),)), (A, B, HIT, None), (B, A, BYE, None))

    def test_in_the_order_of_sending(self):
        steps = log((sent(B, A), sent(A, C)), (sent(A, B, BYE),), (took(B, A, BYE), took(A, B)), (lost(C, A),))
        self.check(steps, (B, A, HIT, ("took", 2)), (A, C, HIT, ("lost", "gone", 3)), (A, B, BYE, ("took", 2)))

    def test_another_letter_or_another_way(self):
        for event in (took(A, B), took(B, C), took(C, A), took(B, None), took(B, A, BYE), took(B, A, ("hit", (2,))), took(B, A, ("hit", ())),
                      took(B, A, ("hits", (1,))), lost(A, B), lost(C, A), lost(B, A, BYE), lost(B, None)):
            self.check(log((sent(A, B),), (event,)), (A, B, HIT, None))

    def test_by_the_letter_as_it_was_sent(self):
        self.check(log((sent(A, B),), (took(B, A, HIT, read=BYE),)), (A, B, HIT, ("took", 1)))
        self.check(log((sent(A, B),), (took(B, A, BYE, read=HIT),)), (A, B, HIT, None))
        self.check(log((sent(A, B),), (took(B, A, HIT, edition=3),)), (A, B, HIT, ("took", 1)))

    def test_the_same_letter_sent_twice(self):
        self.check(log((sent(A, B), sent(A, B)), (took(B, A),)), (A, B, HIT, ("took", 1)), (A, B, HIT, None))
        self.check(log((sent(A, B),), (sent(A, B), lost(B, A)), (took(B, A),)), (A, B, HIT, ("lost", "gone", 1)), (A, B, HIT, ("took", 2)))
        self.check(log((sent(A, B),) * 3, (took(B, A), lost(B, A, why="ended"), took(B, A), took(B, A))),
                   (A, B, HIT, ("took", 1)), (A, B, HIT, ("lost", "ended", 1)), (A, B, HIT, ("took", 1)))

    def test_a_fate_without_a_sent_one_ahead(self):
        self.check(log((took(B, A), lost(B, A)), (sent(A, B),)), (A, B, HIT, None))
        self.check(log((took(B, A), sent(A, B))), (A, B, HIT, None))
        self.check(log((sent(A, B), took(B, A), took(B, A), sent(A, B))), (A, B, HIT, ("took", 0)), (A, B, HIT, None))

    def test_unseen_ones_are_left_out(self):
        self.check(log((sent(A, B, UNSEEN), sent(A, B)), (took(B, A, UNSEEN), lost(B, A, UNSEEN, "parted"))), (A, B, HIT, None))
        self.check(log((sent(A, B, ("unseen", ())),), (took(B, A, ("unseen", ())),)))
        # Others that houses give, too, are told where they were sent.
        for tag in ("exit", "down"):
            self.check(log((sent(A, B, (tag, ())),), (took(B, A, (tag, ())),)), (A, B, (tag, ()), ("took", 1)))

    def test_a_letter_to_oneself(self):
        self.check(log((sent(A, A), took(A, A))), (A, A, HIT, ("took", 0)))

    def test_the_number_of_the_step(self):
        for k in range(5):
            steps = [(TICK, (("tick", 0, n + 1),)) for n in range(6)]
            steps[k] = (ACT, (sent(A, B), took(B, A)))
            self.check(tuple(steps), (A, B, HIT, ("took", k)))

    def test_kinds_and_names(self):
        steps = log((sent(A, B), sent(B, A)), (took(B, A),))
        told = fates_of(log=steps)
        self.assertEqual(kinds_of(told), {tuple, str, int, type(None)})
        self.assertEqual(kinds_of(fates_of(())), {tuple})

    def test_made_up_ones(self):
        founder = Founder(72)
        counts = {}
        for _ in range(150):
            rows = [[] for _ in range(founder.chance.randrange(1, 6))]
            for row in rows:
                for _ in range(founder.chance.randrange(7)):
                    one, other = A, founder.one_of((B, C))
                    letter = founder.one_of((HIT, BYE, UNSEEN))
                    row.append(founder.one_of((sent(one, other, letter), took(other, one, letter), lost(other, one, letter), ("told", A, 1))))
            steps = log(*[tuple(row) for row in rows])
            self.check(steps, *self.by_hand(steps))
            for fate in self.by_hand(steps):
                word = fate[3] and fate[3][0]
                counts[word] = counts.get(word, 0) + 1
        self.assertEqual(set(counts), {"took", "lost", None})
        self.assertGreater(min(counts.values()), 30)

    def by_hand(self, steps):
        told = []
        for k, (_, events) in enumerate(steps):
            for event in events:
                if event[0] == "sent" and event[3][0] != "unseen":
                    told.append((*event[1:], None))
                if event[0] in ("took", "lost"):
                    way = (event[2], event[1], event[4 if event[0] == "took" else 3])
                    fate = ("took", k) if event[0] == "took" else ("lost", event[4], k)
                    for place, row in enumerate(told):
                        if row == (*way, None):
                            told[place] = (*way, fate)
                            break
        return told


class LossesOf(unittest.TestCase):
    def test_in_order_with_their_steps(self):
        steps = log((lost(B, A),), (), (took(B, A), lost(A, None, BYE, "ended"), sent(A, B), lost(C, A, UNSEEN, "parted")), (lost(B, A),))
        self.assertEqual(losses_of(steps), (
            (0, B, A, HIT, "gone"), (2, A, None, BYE, "ended"), (2, C, A, UNSEEN, "parted"), (3, B, A, HIT, "gone")))

    def test_none(self):
        for steps in ((), log(()), log((took(B, A), sent(A, B)), (("told", A, "lost"), ("ended", A, "lost", None)))):
            self.assertEqual(losses_of(steps), ())

    def test_kinds_and_names(self):
        told = losses_of(log=log((lost(B, None),)))
        self.assertEqual(told, ((0, B, None, HIT, "gone"),))
        self.assertEqual(kinds_of(told), {tuple, str, int, type(None)})


if __name__ == "__main__":
    unittest.main()
