"""Points 33 and 36: things delivered, the parting from another house, words told, ticks."""

import unittest

from founding import at, life
from housing import REST, house_of, keeper
from letterfolk.comings import delivered, parted_from, ticked, words_told
from making import kinds_of

HERE, FAR = at(2), at(4, 1)
HIT = ("hit", (7,))
ADD = (at(9), 0, ("add", (1,)))


def exit_of(address, reason):
    return (None, None, ("exit", (address, reason)))


def down_of(address, reason):
    return (None, None, ("down", (address, reason)))


class Comings(unittest.TestCase):
    def deliver(self, folk, *thing, to=HERE, sender=FAR, **more):
        """(lives, events, outs) behind a thing that came."""
        before = house_of(folk, **more)
        house, events, outs = delivered(before, sender, to, thing)
        self.assertEqual((house[:4], before[:4]), (before[:4], house[:4]))
        return dict(house[4]), events, outs


class Delivered(Comings):
    def test_a_letter(self):
        for edition in (0, 3):
            lives, events, outs = self.deliver({2: life(REST, mails=(ADD,), mark=1)}, "letter", edition, HIT)
            self.assertEqual((events, outs), ((), ()))
            self.assertEqual(lives, {2: life(REST, mails=(ADD, (FAR, edition, HIT)), mark=1)})

    def test_a_letter_of_no_edition_is_from_nobody(self):
        lives, events, outs = self.deliver({2: life(REST)}, "letter", None, HIT)
        self.assertEqual((lives, events, outs), ({2: life(REST, mails=((None, None, HIT),))}, (), ()))

    def test_a_letter_to_who_does_not_live(self):
        self.assertEqual(self.deliver({}, "letter", 0, HIT), ({}, (("lost", HERE, FAR, HIT, "gone"),), ()))
        self.assertEqual(self.deliver({}, "letter", None, HIT), ({}, (("lost", HERE, None, HIT, "gone"),), ()))

    def test_a_letter_to_a_keeper(self):
        folk = {2: life(keeper(None))}
        self.assertEqual(self.deliver(folk, "letter", 0, HIT), (folk, (("lost", HERE, FAR, HIT, "keeper"),), ()))
        self.assertEqual(self.deliver(folk, "letter", None, HIT), (folk, (("lost", HERE, None, HIT, "keeper"),), ()))

    def test_a_signal(self):
        for reason in ("odd", "gone", "parted"):
            lives, events, outs = self.deliver({2: life(REST, has=(at(3), FAR)), 3: life(REST, has=(HERE,))}, "signal", reason)
            self.assertEqual((lives, events, outs), ({}, (("ended", HERE, reason, FAR), ("ended", at(3), reason, HERE)), ()))
        lives, events, outs = self.deliver({2: life(REST, has=(at(3), FAR))}, "signal", "done")
        self.assertEqual((lives, events, outs), ({2: life(REST, has=(at(3),))}, (), ()))

    def test_a_signal_to_who_traps(self):
        for reason in ("odd", "done"):
            lives, events, _ = self.deliver({2: life(REST, has=(FAR,), traps=True)}, "signal", reason)
            self.assertEqual((lives, events), ({2: life(REST, traps=True, mails=(exit_of(FAR, reason),))}, ()))

    def test_a_signal_that_nobody_hears(self):
        for folk in ({}, {2: life(REST, has=(at(4), at(4, 2), at(3, 1)))}, {2: life(REST, known=(FAR,), watches=(FAR,), traps=True)}):
            self.assertEqual(self.deliver(folk, "signal", "odd"), (folk, (), ()))

    def test_a_signal_to_a_keeper(self):
        folk = {2: life(keeper(3), has=(at(3), FAR)), 3: life(REST, has=(HERE,))}
        lives, events, _ = self.deliver(folk, "signal", "odd")
        self.assertEqual((lives, events), ({}, (("ended", at(3), "shut", HERE), ("ended", HERE, "odd", FAR))))
        lives, events, _ = self.deliver(folk, "signal", "done")
        self.assertEqual((lives[2], events), (life(keeper(3), has=(at(3),)), ()))

    def test_a_signal_goes_on_to_other_houses(self):
        _, _, outs = self.deliver({2: life(REST, has=(FAR, at(1, 2)), known=(FAR,))}, "signal", "odd", words=(("boss", HERE),))
        self.assertEqual(outs, ((None, None, ("word", "boss", HERE, False)), (HERE, at(1, 2), ("signal", "odd")), (HERE, FAR, ("down", "odd"))))

    def test_a_down(self):
        for reason in ("odd", "done"):
            lives, events, outs = self.deliver({2: life(REST, watches=(at(3), FAR), has=(FAR,))}, "down", reason)
            self.assertEqual((events, outs), ((), ()))
            self.assertEqual(lives, {2: life(REST, watches=(at(3),), has=(FAR,), mails=(down_of(FAR, reason),))})

    def test_a_down_that_nobody_hears(self):
        for folk in ({}, {2: life(REST, has=(FAR,), known=(FAR,), watches=(at(4), at(4, 2)))}):
            self.assertEqual(self.deliver(folk, "down", "odd"), (folk, (), ()))

    def test_a_link(self):
        lives, events, outs = self.deliver({2: life(REST, has=(at(3), at(5, 1)))}, "link")
        self.assertEqual((lives, events, outs), ({2: life(REST, has=(at(3), FAR, at(5, 1)))}, (), ()))
        self.assertEqual(self.deliver(lives, "link")[0], lives)
        self.assertEqual(self.deliver({2: life(keeper(None))}, "link")[0], {2: life(keeper(None), has=(FAR,))})

    def test_a_watch(self):
        lives, events, outs = self.deliver({2: life(REST, known=(at(3), at(5, 1)))}, "watch")
        self.assertEqual((lives, events, outs), ({2: life(REST, known=(at(3), FAR, at(5, 1)))}, (), ()))
        self.assertEqual(self.deliver(lives, "watch")[0], lives)

    def test_a_link_and_a_watch_to_nobody(self):
        folk = {3: life(REST)}
        self.assertEqual(self.deliver(folk, "link"), (folk, (), ((HERE, FAR, ("signal", "gone")),)))
        self.assertEqual(self.deliver(folk, "watch"), (folk, (), ((HERE, FAR, ("down", "gone")),)))

    def test_an_unlink(self):
        lives, events, outs = self.deliver({2: life(REST, has=(at(3), FAR), known=(FAR,))}, "unlink")
        self.assertEqual((lives, events, outs), ({2: life(REST, has=(at(3),), known=(FAR,))}, (), ()))
        self.assertEqual(self.deliver(lives, "unlink"), (lives, (), ()))
        self.assertEqual(self.deliver({}, "unlink"), ({}, (), ()))

    def test_kinds_names_and_what_is_handed_in(self):
        house = house_of({2: life(REST, has=(FAR,), traps=True)})
        told = delivered(thing=("signal", "odd"), to=HERE, sender=FAR, house=house)
        self.assertEqual(told, delivered(house, FAR, HERE, ("signal", "odd")))
        self.assertEqual(kinds_of(told), {tuple, str, int, bool, type(None)})
        self.assertEqual(house, house_of({2: life(REST, has=(FAR,), traps=True)}))


class PartedFrom(unittest.TestCase):
    def part(self, folk, other=1, **more):
        before = house_of(folk, **more)
        house, events, outs = parted_from(before, other)
        self.assertEqual((house[0], house[1], house[3]), (before[0], before[1], before[3]))
        return dict(house[4]), events, outs

    def test_nobody_there(self):
        folk = {0: life(REST, has=(at(1), at(4, 2)), known=(at(4, 2),), watches=(at(1), at(4, 2))), 1: life(REST, has=(at(0),))}
        self.assertEqual(self.part(folk), (folk, (), ()))
        self.assertEqual(self.part({}), ({}, (), ()))

    def test_who_is_known_is_so_no_more(self):
        folk = {0: life(REST, known=(at(1), FAR, at(5, 1), at(4, 2))), 1: life(keeper(None), known=(FAR,))}
        self.assertEqual(self.part(folk), ({0: life(REST, known=(at(1), at(4, 2))), 1: life(keeper(None))}, (), ()))

    def test_known_ones_go_ahead_of_all_signals(self):
        # Number 0 ends: number 3 of the other house, which number 1 knows, is told nothing of what comes of it.
        folk = {0: life(REST, has=(at(1), FAR)), 1: life(REST, has=(at(0),), known=(at(3, 1), at(3, 2)))}
        lives, events, outs = self.part(folk)
        self.assertEqual(events, (("ended", at(0), "parted", FAR), ("ended", at(1), "parted", at(0))))
        self.assertEqual(outs, ((at(1), at(3, 2), ("down", "parted")),))

    def test_signals_then_downs(self):
        far = (at(1, 1), at(9, 1))
        folk = {0: life(REST, has=(*far, at(0, 2)), watches=(*far, at(0, 2)), traps=True)}
        lives, events, outs = self.part(folk)
        mails = (*[exit_of(one, "parted") for one in far], *[down_of(one, "parted") for one in far])
        self.assertEqual((lives, events, outs), ({0: life(REST, has=(at(0, 2),), watches=(at(0, 2),), traps=True, mails=mails)}, (), ()))

    def test_while_it_lives(self):
        folk = {0: life(REST, has=(at(1, 1), at(9, 1)), watches=(at(1, 1),))}
        lives, events, outs = self.part(folk)
        self.assertEqual((lives, events), ({}, (("ended", at(0), "parted", at(1, 1)),)))
        # It still had the other one, to which its signal goes out.
        self.assertEqual(outs, ((at(0), at(9, 1), ("signal", "parted")),))

    def test_life_by_life(self):
        folk = {n: life(REST, has=(FAR,), watches=(FAR,)) for n in (8, 0, 3)}
        folk[3] = life(REST, watches=(FAR,))
        lives, events, _ = self.part(folk)
        self.assertEqual(events, (("ended", at(0), "parted", FAR), ("ended", at(8), "parted", FAR)))
        self.assertEqual(lives, {3: life(REST, mails=(down_of(FAR, "parted"),))})

    def test_who_ends_by_another_one_meanwhile(self):
        folk = {0: life(REST, has=(at(1), FAR)), 1: life(REST, has=(at(0), FAR)), 2: life(REST, has=(FAR,), traps=True)}
        lives, events, outs = self.part(folk)
        self.assertEqual(events, (("ended", at(0), "parted", FAR), ("ended", at(1), "parted", at(0))))
        self.assertEqual(lives, {2: life(REST, traps=True, mails=(exit_of(FAR, "parted"),))})
        self.assertEqual(outs, ((at(1), FAR, ("signal", "parted")),))

    def test_a_keeper(self):
        folk = {0: life(keeper(1), has=(at(1), FAR)), 1: life(REST, has=(at(0),))}
        lives, events, _ = self.part(folk)
        self.assertEqual((lives, events), ({}, (("ended", at(1), "shut", at(0)), ("ended", at(0), "parted", FAR))))

    def test_a_child_begins_anew_and_has_nobody_there(self):
        folk = {0: life(keeper(1), has=(at(1),)), 1: life(REST, has=(at(0), FAR))}
        lives, events, _ = self.part(folk, made=2)
        self.assertEqual(events, (("ended", at(1), "parted", FAR), ("anew", at(0), 0, at(2)), ("made", at(2), at(0), REST)))
        self.assertEqual(lives[2], life(REST, has=(at(0),), since=5))

    def test_from_house_zero(self):
        house = house_of({2: life(REST, has=(at(2), at(2, 2)), known=(at(1), at(1, 2)), traps=True)}, h=1)
        told, events, outs = parted_from(house, 0)
        self.assertEqual(dict(told[4]), {2: life(REST, has=(at(2, 2),), known=(at(1, 2),), traps=True, mails=(exit_of(at(2), "parted"),))})
        self.assertEqual((events, outs), ((), ()))

    def test_kinds_and_names(self):
        house = house_of({2: life(REST, has=(FAR,))}, words=(("boss", FAR),))
        told = parted_from(other=1, house=house)
        self.assertEqual(told, parted_from(house, 1))
        self.assertEqual(kinds_of(told), {tuple, str, int})
        # Words of the other house go by what a house is told, not here.
        self.assertEqual(told[0][5], (("boss", FAR),))


class WordsTold(unittest.TestCase):
    WORDS = (("boss", at(2)), ("red", at(4, 1)))

    def test_a_pair_that_is_there(self):
        house = house_of({2: life(REST)}, words=self.WORDS)
        for pair in (("boss", at(0)), ("boss", at(1, 1)), ("blue", at(9, 3)), ("white", at(0, 1))):
            told = words_told(house, *pair)
            self.assertEqual(told, (house_of({2: life(REST)}, words=(*self.WORDS, pair)), (), ()))
            self.assertEqual(told, words_told(house, *pair, has=True))
            self.assertEqual(words_told(told[0], *pair), told)

    def test_a_pair_that_is_no_more(self):
        house = house_of({2: life(REST)}, words=self.WORDS)
        self.assertEqual(words_told(house, "red", at(4, 1), has=False), (house_of({2: life(REST)}, words=self.WORDS[:1]), (), ()))
        for pair in (("red", at(3, 1)), ("blue", at(4, 1)), ("blue", at(2))):
            self.assertEqual(words_told(house, *pair, has=False), (house, (), ()))

    def test_kinds_and_names(self):
        told = words_told(has=True, address=FAR, word="boss", house=house_of({}))
        self.assertEqual(told[0][5], (("boss", FAR),))
        self.assertEqual(kinds_of(told), {tuple, int, str})
        with self.assertRaises(TypeError):
            words_told(house_of({}), "boss", FAR, True)


class Ticked(unittest.TestCase):
    def test_the_clock_is_one_more(self):
        folk = {2: life(REST, since=3), 4: life(keeper(None, past=(1, 2)))}
        for clock in (0, 5, 10 ** 20):
            self.assertEqual(ticked(house_of(folk, clock=clock, words=(("boss", FAR),))), house_of(folk, clock=clock + 1, words=(("boss", FAR),)))
        self.assertEqual(ticked(house=house_of({}, h=2)), house_of({}, h=2, clock=6))
        self.assertEqual(kinds_of(ticked(house_of({}))), {tuple, int})


if __name__ == "__main__":
    unittest.main()
