"""Points 29, 30, 31 and 42: looking through a mailbox for the first mail that an arm fits."""

import unittest

from founding import LIBRARY, Founder, at
from letterfolk.codereader import read_code
from letterfolk.fitting import fitting
from letterfolk.leading import looked
from letterfolk.looks import behaviour_at
from letterfolk.mailboxes import look_through
from making import kinds_of

HERE = at(3)
# Of edition 2: an add below n fits; edition 0's add comes one higher, edition 1's as it is.
STATE = ("tally", (10,), 2)


def mail(tag, *values, edition=2, sender=at(0, 1)):
    return (sender, edition, (tag, values))


LOW, HIGH = mail("add", 4), mail("add", 10)
OTHER = mail("none")
LATER = mail("add", 4, edition=3)
GONE = mail("out", edition=0)
LOST = mail("none", 1, edition=1)


class Looking(unittest.TestCase):
    def look(self, mails, mark=0, state=STATE, library=LIBRARY):
        return look_through(library, state, (mark, tuple(mails)), address=HERE)

    def test_a_void_mailbox(self):
        self.assertEqual(self.look(()), (None, (), 0, (0, ())))

    def test_the_first_one_is_found(self):
        self.assertEqual(self.look((LOW,)), ((LOW, ("add", (4,))), (), 1, (0, ())))
        self.assertEqual(self.look((LOW, HIGH, OTHER)), ((LOW, ("add", (4,))), (), 1, (0, (HIGH, OTHER))))

    def test_one_behind_others_is_found(self):
        self.assertEqual(self.look((HIGH, OTHER, LOW, mail("add", 5), HIGH)), ((LOW, ("add", (4,))), (), 3, (2, (HIGH, OTHER, mail("add", 5), HIGH))))

    def test_none_fits(self):
        self.assertEqual(self.look((HIGH, OTHER)), (None, (), 2, (2, (HIGH, OTHER))))
        self.assertEqual(self.look((OTHER,) * 5), (None, (), 5, (5, (OTHER,) * 5)))

    def test_the_mark_is_ahead_of_some(self):
        self.assertEqual(self.look((LOW, HIGH, LOW), mark=1), ((LOW, ("add", (4,))), (), 2, (2, (LOW, HIGH))))
        self.assertEqual(self.look((LOW, LOW, HIGH), mark=2), (None, (), 1, (3, (LOW, LOW, HIGH))))
        self.assertEqual(self.look((LOW, GONE, LATER), mark=3), (None, (), 0, (3, (LOW, GONE, LATER))))

    def test_the_first_of_like_ones_goes(self):
        one, two = mail("add", 4, sender=at(1)), mail("add", 4, sender=at(2))
        self.assertEqual(self.look((HIGH, one, two, one)), ((one, ("add", (4,))), (), 2, (1, (HIGH, two, one))))
        self.assertEqual(self.look((one, two, one), mark=1), ((two, ("add", (4,))), (), 1, (1, (one, one))))
        self.assertEqual(self.look((one, one, one), mark=2), ((one, ("add", (4,))), (), 1, (2, (one, one))))

    def test_waiting_ones_stay_and_are_not_read(self):
        self.assertEqual(self.look((LATER,)), (None, (), 0, (1, (LATER,))))
        self.assertEqual(self.look((LATER, HIGH, LATER, LOW, LATER)), ((LOW, ("add", (4,))), (), 2, (3, (LATER, HIGH, LATER, LATER))))

    def test_unseen_ones_go_and_are_told_in_order(self):
        self.assertEqual(self.look((GONE,)), (None, (GONE,), 0, (0, ())))
        self.assertEqual(self.look((GONE, HIGH, LOST, OTHER, GONE)), (None, (GONE, LOST, GONE), 2, (2, (HIGH, OTHER))))
        self.assertEqual(self.look((LOST, GONE, HIGH, LOW, GONE)), ((LOW, ("add", (4,))), (LOST, GONE), 2, (1, (HIGH, GONE))))

    def test_unseen_ones_ahead_of_the_mark_stay(self):
        self.assertEqual(self.look((GONE, GONE, HIGH), mark=1), (None, (GONE,), 1, (2, (GONE, HIGH))))

    def test_led_ones_are_looked_at_as_they_read(self):
        led = mail("add", 4, edition=0)
        self.assertEqual(self.look((led,)), ((led, ("add", (5,))), (), 1, (0, ())))
        # As sent it would fit, as it reads it doesn't, and the other way about.
        near = mail("add", 9, edition=0)
        self.assertEqual(self.look((near,)), (None, (), 1, (1, (near,))))
        big = mail("add", 7, 9, edition=0)
        self.assertEqual(self.look((big,)), ((big, ("big", (7, 0, 9))), (), 1, (0, ())))
        none = mail("add", 0, 9, edition=0)
        self.assertEqual(self.look((none,)), (None, (), 1, (1, (none,))))

    def test_a_mail_of_no_edition_is_read_as_of_its_own(self):
        plain = mail("add", 4, edition=None, sender=None)
        self.assertEqual(self.look((plain,)), ((plain, ("add", (4,))), (), 1, (0, ())))
        out = mail("out", edition=None, sender=None)
        self.assertEqual(self.look((out, plain)), ((plain, ("add", (4,))), (), 2, (1, (out,))))
        for edition, state in enumerate((("count", (0,), 0), ("count", (0, 0), 1))):
            found = self.look((plain,), state=state)
            self.assertEqual(found, ((plain, ("add", (4,))), (), 1, (0, ())), edition)

    def test_nobody_waits_in_the_newest_edition(self):
        state = ("tally", (1, 2), 3)
        self.assertEqual(self.look((LATER,), state=state), ((LATER, ("add", (4,))), (), 1, (0, ())))
        low = mail("add", 4)
        self.assertEqual(self.look((low,), state=state), (None, (), 1, (1, (low,))))

    def test_the_address_of_who_looks(self):
        library = ((read_code("be one\narm hit a : = a @\nend 'done"), ((), ())),)
        mails = [mail("hit", at(n), edition=0) for n in range(5)]
        for n in range(5):
            found, _, looks, box = look_through(library, ("one", (), 0), (0, tuple(mails)), address=at(n))
            self.assertEqual((found, looks), ((mails[n], ("hit", (at(n),))), n + 1))
            self.assertEqual(box, (n, tuple(mails[:n] + mails[n + 1:])))

    def test_kinds_names_and_what_was_handed_in(self):
        box = (1, (LOW, GONE, LOW, LATER))
        told = look_through(address=HERE, mailbox=box, state=STATE, library=LIBRARY)
        self.assertEqual(told, ((LOW, ("add", (4,))), (GONE,), 1, (1, (LOW, LATER))))
        self.assertEqual(kinds_of(told), {tuple, str, int})
        self.assertEqual(box, (1, (LOW, GONE, LOW, LATER)))
        with self.assertRaises(TypeError):
            look_through(LIBRARY, STATE, box, HERE)


class MadeUp(unittest.TestCase):
    """Made-up mails, looked at one by one as the document says it."""

    def mails(self, founder, library, many):
        found = []
        for _ in range(many):
            edition = founder.one_of((None, *range(len(library))))
            code = library[0 if edition is None else edition][0]
            found.append((founder.one_of((None, founder.address())), edition, founder.letter(founder.one_of(code))))
        return found

    def by_hand(self, library, state, box, address):
        name, values, own = state
        behaviour = behaviour_at(library[own][0], name)
        mark, mails = box
        stay, unseen, looks, found = list(mails[:mark]), [], 0, None
        waiting = list(mails[mark:])
        while waiting and found is None:
            one = waiting.pop(0)
            read = ("as", one[2]) if one[1] is None else looked(library, one[2], edition=one[1], own=own)
            looks += read[0] in ("as", "led")
            if read[0] == "unseen":
                unseen.append(one)
            elif read[0] == "waits" or fitting(behaviour, values, read[1], address=address) is None:
                stay.append(one)
            else:
                found = (one, read[1])
        return found, tuple(unseen), looks, (len(stay), (*stay, *waiting))

    def test_as_the_document_says(self):
        founder = Founder(30)
        counts = {"found": 0, "unseen": 0, "none": 0, "marked": 0}
        for _ in range(400):
            library = founder.library(4)
            state = founder.state(library)
            mails = tuple(self.mails(founder, library, founder.chance.randrange(7)))
            box = (founder.chance.randrange(len(mails) + 1), mails)
            address = founder.address()
            told = look_through(library, state, box, address=address)
            self.assertEqual(told, self.by_hand(library, state, box, address))
            counts["found" if told[0] else "none"] += 1
            counts["unseen"] += bool(told[1])
            counts["marked"] += box[0] > 0
        self.assertGreater(min(counts.values()), 30)

    def test_looking_again_and_again(self):
        """Behind each mail that comes: each is read once at the most, and what is found is what mark 0 finds."""
        founder = Founder(31)
        ended = 0
        for _ in range(150):
            library = founder.library(3)
            state = founder.state(library)
            address = founder.address()
            box = (0, ())
            read = came = 0
            for one in self.mails(founder, library, 8):
                box = (box[0], (*box[1], one))
                came += 1
                anew = look_through(library, state, (0, box[1]), address=address)
                found, unseen, looks, box = look_through(library, state, box, address=address)
                self.assertEqual((found, unseen, box), (anew[0], anew[1], anew[3]))
                self.assertLessEqual(looks, anew[2])
                read += looks
                self.assertLessEqual(read, came)
                if found is not None:
                    ended += 1
                    break
                self.assertEqual(box[0], len(box[1]))
        self.assertGreater(ended, 30)


if __name__ == "__main__":
    unittest.main()
