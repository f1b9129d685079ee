"""Points 4, 26, 27 and 28: what comes of taking a letter and of being late, by the tree and by rows."""

import unittest

from letterfolk.codereader import read_code
from letterfolk.coderows import made, made_code
from letterfolk.codetexts import shown_code
from letterfolk.fitting import fitting
from letterfolk.rowsback import unmade
from letterfolk.rowtaking import row_late, row_taken
from letterfolk.treetaking import late_taken, taken
from making import TOP, Maker, kinds_of

ONE = ("is", 1)
HERE = ("at", 1, 4)
AROUND = (9, (0, 2, 4), (("boss", ("at", 0, 3)), ("boss", ("at", 1, 2)), ("low", ("at", 1, 4))))
STAYS = ("end", ("is", "done"))


def an(house, n):
    """The sum of an address."""
    return ("is", ("at", house, n))


class Taking(unittest.TestCase):
    """By the tree."""

    def take(self, behaviour, state, letter, **more):
        return taken(behaviour, state, letter, **more)

    def late(self, behaviour, state, **more):
        return late_taken(behaviour, state, **more)

    def both(self, acts, last, names=("x", "y"), values=(5, "red"), around=AROUND, edition=3):
        """What an arm with these acts tells, of params; being late tells the same."""
        guard = ("same", ("of", names[0]), ("is", values[0])) if names else ONE
        behaviour = ("work", names, (("hit", (), guard, acts, last),), (ONE, acts, last))
        state = ("work", values, edition)
        told = self.take(behaviour, state, ("hit", ()), address=HERE, around=around)
        self.assertEqual(self.late(behaviour, state, address=HERE, around=around), told)
        return told

    def deeds(self, *acts, around=AROUND):
        deeds, last = self.both(acts, STAYS, around=around)
        self.assertEqual(last, ("end", "done"))
        return deeds

    def test_no_acts(self):
        self.assertEqual(self.both((), STAYS), ((), ("end", "done")))
        self.assertEqual(self.both((), ("go", "rest", ())), ((), ("go", ("rest", (), 3))))

    def test_no_arm_fits(self):
        behaviour = ("work", ("x",), (("hit", (), ("of", "x"), (), STAYS), ("hit", ("a",), ONE, (), STAYS)), None)
        for letter in (("hit", ()), ("bye", ()), ("hit", (1, 2)), ("bye", (1,))):
            self.assertIsNone(self.take(behaviour, ("work", (0,), 0), letter, address=HERE, around=AROUND))
        self.assertIsNotNone(self.take(behaviour, ("work", (1,), 0), ("hit", ()), address=HERE, around=AROUND))

    def test_no_late(self):
        behaviour = ("work", (), (("hit", (), ONE, (), STAYS),), None)
        self.assertIsNone(self.late(behaviour, ("work", (), 0), address=HERE, around=AROUND))
        self.assertIsNone(self.late(("work", (), (), None), ("work", (), 0), address=HERE, around=AROUND))

    def test_late_without_arms(self):
        behaviour = ("work", ("x",), (), (("is", 50), (("tell", ("of", "x")),), ("go", "work", (ONE,))))
        told = self.late(behaviour, ("work", (7,), 2), address=HERE, around=AROUND)
        self.assertEqual(told, ((("tell", 7),), ("go", ("work", (1,), 2))))
        self.assertIsNone(self.take(behaviour, ("work", (7,), 2), ("hit", ()), address=HERE, around=AROUND))

    def test_the_first_arm_that_fits(self):
        arms = tuple([("hit", ("a",), ("less", ("of", "a"), ("is", k)), (("tell", ("is", k)),), ("end", ("of", "a"))) for k in (3, 9, 7, 12)])
        behaviour = ("work", (), arms, None)
        for value, told in ((2, 3), (3, 9), (8, 9), (9, 12), (11, 12)):
            found = self.take(behaviour, ("work", (), 0), ("hit", (value,)), address=HERE, around=AROUND)
            self.assertEqual(found, ((("tell", told),), ("end", "odd")))
        self.assertIsNone(self.take(behaviour, ("work", (), 0), ("hit", (12,)), address=HERE, around=AROUND))

    def test_send(self):
        self.assertEqual(self.deeds(("send", an(0, 7), "bye", ())), (("send", ("at", 0, 7), ("bye", ())),))
        sums = (("of", "x"), ("minus", ("of", "x"), ("is", 7)), ("self",), ("of", "y"), ("of", "none"))
        self.assertEqual(self.deeds(("send", ("self",), "hit", sums)), (("send", HERE, ("hit", (5, -2, HERE, "red", 0))),))

    def test_send_to_none(self):
        for amount in (ONE, ("is", 0), ("is", "red"), ("is", "at"), ("of", "none"), ("of", "x"), ("of", "y"), ("plus", ("self",), ("self",))):
            self.assertEqual(self.deeds(("send", amount, "bye", (ONE,)), ("tell", ONE)), (("tell", 1),))

    def test_link_unlink_watch(self):
        for word in ("link", "unlink", "watch"):
            self.assertEqual(self.deeds((word, an(1, 2))), ((word, ("at", 1, 2)),))
            self.assertEqual(self.deeds((word, an(0, 4)), (word, an(1, 77))), ((word, ("at", 0, 4)), (word, ("at", 1, 77))))
            for amount in (("self",), an(1, 4), ONE, ("is", 0), ("is", "red"), ("of", "none"), ("of", "x")):
                self.assertEqual(self.deeds((word, amount), ("tell", ONE)), (("tell", 1),))

    def test_trap(self):
        for value, told in ((1, True), (7, True), (TOP, True), (0, False), (-1, False), ("red", False), (("at", 0, 0), False)):
            deeds = self.deeds(("trap", ("is", value)))
            self.assertEqual(deeds, (("trap", told),))
            self.assertIs(deeds[0][1], told)
        self.assertEqual(self.deeds(("trap", ("self",))), (("trap", False),))

    def test_tell(self):
        for value in (0, 1, -5, TOP, "red", ("at", 0, 3)):
            deeds = self.deeds(("tell", ("is", value)))
            self.assertEqual(deeds, (("tell", value),))
            self.assertIs(type(deeds[0][1]), type(value))
        self.assertEqual(self.deeds(("tell", ("self",)), ("tell", ("of", "x"))), (("tell", HERE), ("tell", 5)))
        self.assertIs(type(self.deeds(("tell", ("same", ONE, ONE)))[0][1]), int)

    def test_make(self):
        for how in ("free", "linked", "watched"):
            deeds, last = self.both((("make", "k", "rest", (("of", "x"), ("self",)), how),), ("go", "work", (("of", "k"), ("of", "x"))))
            self.assertEqual(deeds, (("make", ("at", 1, 9), ("rest", (5, HERE), 3), how),))
            self.assertEqual(last, ("go", ("work", (("at", 1, 9), 5), 3)))

    def test_several_makes(self):
        acts = (
            ("make", "k", "rest", (), "free"), ("tell", ("of", "k")), ("make", "m", "rest", (("of", "k"),), "linked"),
            ("make", "k", "rest", (("of", "k"),), "watched"), ("send", ("of", "k"), "hit", (("of", "m"),)), ("link", ("of", "m")),
        )
        self.assertEqual(self.deeds(*acts), (
            ("make", ("at", 1, 9), ("rest", (), 3), "free"), ("tell", ("at", 1, 9)),
            ("make", ("at", 1, 10), ("rest", (("at", 1, 9),), 3), "linked"),
            ("make", ("at", 1, 11), ("rest", (("at", 1, 9),), 3), "watched"),
            ("send", ("at", 1, 11), ("hit", (("at", 1, 10),))), ("link", ("at", 1, 10)),
        ))

    def test_make_binds_whatever_the_name_had(self):
        acts = (("tell", ("of", "x")), ("make", "x", "rest", (("of", "x"),), "free"), ("tell", ("of", "x")))
        deeds, last = self.both(acts, ("go", "work", (("of", "x"), ("of", "y"))))
        new = ("at", 1, 9)
        self.assertEqual(deeds, (("tell", 5), ("make", new, ("rest", (5,), 3), "free"), ("tell", new)))
        self.assertEqual(last, ("go", ("work", (new, "red"), 3)))

    def test_name(self):
        self.assertEqual(self.deeds(("name", "low", an(1, 2))), (("name", "low", ("at", 1, 2)),))
        self.assertEqual(self.deeds(("name", "top", ("self",))), (("name", "top", HERE),))
        self.assertEqual(self.deeds(("name", "top", an(1, 0))), (("name", "top", ("at", 1, 0)),))

    def test_name_of_one_of_another_house(self):
        self.assertEqual(self.deeds(("name", "top", an(0, 2)), ("name", "top", an(2, 4))), ())

    def test_name_of_one_who_does_not_live(self):
        for n in (1, 3, 5, 8, 9, 100):
            self.assertEqual(self.deeds(("name", "top", an(1, n))), ())

    def test_name_that_one_has_already(self):
        self.assertEqual(self.deeds(("name", "boss", an(1, 2)), ("name", "low", ("self",)), ("name", "low", an(1, 4))), ())
        twice = self.deeds(("name", "top", ("self",)), ("name", "top", ("self",)), ("name", "tip", ("self",)))
        self.assertEqual(twice, (("name", "top", HERE), ("name", "tip", HERE)))

    def test_name_of_what_is_no_address(self):
        for amount in (ONE, ("is", 4), ("is", "red"), ("of", "x"), ("of", "none"), ("is", 0)):
            self.assertEqual(self.deeds(("name", "top", amount)), ())

    def test_who_is_made_lives_for_the_acts_behind(self):
        make = ("make", "k", "rest", (), "free")
        new = ("at", 1, 9)
        self.assertEqual(self.deeds(make, ("name", "top", ("of", "k"))), (("make", new, ("rest", (), 3), "free"), ("name", "top", new)))
        self.assertEqual(self.deeds(("name", "top", an(1, 9)), make), (("make", new, ("rest", (), 3), "free"),))
        told = self.deeds(make, make, ("name", "top", an(1, 9)), ("name", "top", an(1, 10)), ("name", "top", an(1, 11)))
        self.assertEqual(told[2:], (("name", "top", new), ("name", "top", ("at", 1, 10))))

    def test_ask(self):
        told = self.deeds(("ask", "k", "boss"), ("tell", ("of", "k")), ("ask", "k", "low"), ("tell", ("of", "k")), ("ask", "k", "no"), ("tell", ("of", "k")))
        self.assertEqual(told, (
            ("ask", "boss", ("at", 0, 3)), ("tell", ("at", 0, 3)), ("ask", "low", HERE), ("tell", HERE), ("ask", "no", 0), ("tell", 0)))

    def test_ask_binds_whatever_the_name_had(self):
        deeds, last = self.both((("ask", "x", "no"), ("ask", "y", "boss")), ("go", "work", (("of", "y"), ("of", "x"))))
        self.assertEqual(deeds, (("ask", "no", 0), ("ask", "boss", ("at", 0, 3))))
        self.assertEqual(last, ("go", ("work", (("at", 0, 3), 0), 3)))

    def test_name_ahead_of_ask(self):
        told = self.deeds(("ask", "k", "top"), ("name", "top", ("self",)), ("ask", "k", "top"), ("name", "top", an(1, 2)), ("ask", "k", "top"),
                          ("name", "top", an(1, 0)), ("ask", "k", "top"), ("send", ("of", "k"), "hit", ()))
        two, none = ("at", 1, 2), ("at", 1, 0)
        self.assertEqual(told, (
            ("ask", "top", 0), ("name", "top", HERE), ("ask", "top", HERE), ("name", "top", two), ("ask", "top", two), ("name", "top", none),
            ("ask", "top", none), ("send", none, ("hit", ()))))

    def test_name_of_a_greater_address_does_not_change_whom(self):
        told = self.deeds(("name", "boss", ("self",)), ("ask", "k", "boss"))
        self.assertEqual(told, (("name", "boss", HERE), ("ask", "boss", ("at", 0, 3))))
        told = self.deeds(("name", "top", ("self",)), ("name", "low", an(1, 0)), ("ask", "k", "low"))
        self.assertEqual(told[1:], (("name", "low", ("at", 1, 0)), ("ask", "low", ("at", 1, 0))))

    def test_greater_figures_are_no_greater_texts(self):
        around = (11, (2, 4, 10), ())
        told = self.deeds(("name", "top", an(1, 10)), ("name", "top", an(1, 2)), ("ask", "k", "top"), around=around)
        self.assertEqual(told[2], ("ask", "top", ("at", 1, 2)))

    def test_deeds_in_the_order_of_the_acts(self):
        acts = (
            ("tell", ("is", 3)), ("watch", an(0, 1)), ("trap", ("is", 0)), ("send", ("self",), "a", ()), ("trap", ONE), ("unlink", an(0, 1)),
            ("ask", "k", "no"), ("tell", ("is", 1)), ("name", "top", ("self",)), ("make", "k", "rest", (), "free"), ("link", ("of", "k")),
        )
        self.assertEqual([deed[0] for deed in self.deeds(*acts)], [act[0] for act in acts])

    def test_go(self):
        self.assertEqual(self.both((), ("go", "work", (("of", "y"), ("plus", ("of", "x"), ONE))))[1], ("go", ("work", ("red", 6), 3)))
        for edition in (0, 1, 5):
            self.assertEqual(self.both((), ("go", "rest", (ONE,)), edition=edition)[1], ("go", ("rest", (1,), edition)))
            deeds, _ = self.both((("make", "k", "rest", (), "free"),), STAYS, edition=edition)
            self.assertEqual(deeds[0][2], ("rest", (), edition))

    def test_end(self):
        for value, told in (("done", "done"), ("odd", "odd"), ("red", "red"), (0, "odd"), (1, "odd"), (-1, "odd"), (("at", 0, 0), "odd")):
            self.assertEqual(self.both((), ("end", ("is", value)))[1], ("end", told))
        self.assertEqual(self.both((), ("end", ("self",)))[1], ("end", "odd"))
        self.assertEqual(self.both((), ("end", ("of", "y")))[1], ("end", "red"))
        self.assertEqual(self.both((), ("end", ("of", "none")))[1], ("end", "odd"))
        self.assertEqual(self.both((("ask", "y", "no"),), ("end", ("of", "y")))[1], ("end", "odd"))

    def test_names_of_the_letter_go_over_params(self):
        arm = ("hit", ("y", "z"), ONE, (("tell", ("of", "x")), ("tell", ("of", "y")), ("tell", ("of", "z"))), ("go", "work", (("of", "y"), ("of", "z"))))
        late = (ONE, arm[3], arm[4])
        behaviour = ("work", ("x", "y"), (arm,), late)
        told = self.take(behaviour, ("work", (1, 2), 0), ("hit", (7, 8)), address=HERE, around=AROUND)
        self.assertEqual(told, ((("tell", 1), ("tell", 7), ("tell", 8)), ("go", ("work", (7, 8), 0))))
        told = self.late(behaviour, ("work", (1, 2), 0), address=HERE, around=AROUND)
        self.assertEqual(told, ((("tell", 1), ("tell", 2), ("tell", 0)), ("go", ("work", (2, 0), 0))))

    def test_make_and_ask_go_over_the_letter(self):
        acts = (("make", "y", "rest", (), "free"), ("ask", "z", "low"))
        arm = ("hit", ("y", "z"), ONE, acts, ("go", "work", (("of", "y"), ("of", "z"))))
        told = self.take(("work", ("x", "y"), (arm,), None), ("work", (1, 2), 0), ("hit", (7, 8)), address=HERE, around=AROUND)
        self.assertEqual(told[1], ("go", ("work", (("at", 1, 9), HERE), 0)))

    def test_the_address_of_who_takes(self):
        behaviour = ("work", (), (("hit", ("a",), ("same", ("of", "a"), ("self",)), (("tell", ("self",)),), ("end", ("self",))),), None)
        for address in (("at", 0, 0), ("at", 2, 6)):
            told = self.take(behaviour, ("work", (), 0), ("hit", (address,)), address=address, around=AROUND)
            self.assertEqual(told, ((("tell", address),), ("end", "odd")))
            self.assertIsNone(self.take(behaviour, ("work", (), 0), ("hit", (("at", 1, 1),)), address=address, around=AROUND))

    def test_the_house_of_who_takes(self):
        acts = (("make", "k", "rest", (), "free"), ("name", "top", an(2, 0)), ("name", "top", an(1, 0)), ("name", "top", ("of", "k")))
        behaviour = ("work", (), (("hit", (), ONE, acts, STAYS),), None)
        told = self.take(behaviour, ("work", (), 0), ("hit", ()), address=("at", 2, 6), around=(0, (0, 6), ()))
        new = ("at", 2, 0)
        self.assertEqual(told[0], (("make", new, ("rest", (), 0), "free"), ("name", "top", new)))

    def test_sums_on_all_places(self):
        deep = ("minus", ("plus", ("of", "x"), ("is", 10)), ("less", ("is", 0), ("is", 4)))
        acts = (("send", ("self",), "a", (deep, ONE, deep)), ("make", "k", "rest", (deep, ("of", "y"), deep), "free"), ("tell", deep), ("trap", deep))
        deeds, last = self.both(acts, ("go", "work", (deep, ("same", deep, ("is", 14)))))
        self.assertEqual(deeds, (
            ("send", HERE, ("a", (14, 1, 14))), ("make", ("at", 1, 9), ("rest", (14, "red", 14), 3), "free"), ("tell", 14), ("trap", True)))
        self.assertEqual(last, ("go", ("work", (14, 1), 3)))

    def test_kinds_and_what_was_handed_in(self):
        acts = (("make", "k", "rest", (ONE,), "free"), ("name", "top", ("of", "k")), ("ask", "b", "top"), ("send", ("of", "b"), "hit", (ONE,)), ("trap", ONE))
        around = (9, (0, 2, 4), (("boss", ("at", 0, 3)),))
        told = self.both(acts, ("go", "work", (ONE, ONE)), around=around)
        self.assertEqual(kinds_of(told), {tuple, str, int, bool})
        self.assertEqual(around, (9, (0, 2, 4), (("boss", ("at", 0, 3)),)))
        self.assertEqual(len(told), 2)
        self.assertEqual(self.both(acts, ("go", "work", (ONE, ONE)), around=around), told)

    def test_by_names(self):
        behaviour = ("work", (), (("hit", (), ONE, (), STAYS),), (ONE, (), ("end", ("is", "old"))))
        state, letter = ("work", (), 0), ("hit", ())
        rows = made(behaviour)
        self.assertEqual(taken(around=AROUND, address=HERE, letter=letter, state=state, behaviour=behaviour), ((), ("end", "done")))
        self.assertEqual(late_taken(around=AROUND, address=HERE, state=state, behaviour=behaviour), ((), ("end", "old")))
        self.assertEqual(row_taken(around=AROUND, address=HERE, letter=letter, state=state, rows=rows), ((), ("end", "done")))
        self.assertEqual(row_late(around=AROUND, address=HERE, state=state, rows=rows), ((), ("end", "old")))
        for wrong in (lambda: taken(behaviour, state, letter, HERE, AROUND), lambda: late_taken(behaviour, state, HERE, AROUND)):
            self.assertRaises(TypeError, wrong)
        for wrong in (lambda: row_taken(rows, state, letter, HERE, AROUND), lambda: row_late(rows, state, HERE, AROUND)):
            self.assertRaises(TypeError, wrong)
        for wrong in (lambda: taken(behaviour, state, letter, address=HERE), lambda: late_taken(behaviour, state, around=AROUND)):
            self.assertRaises(TypeError, wrong)


class RowTaking(Taking):
    """By rows, all the same."""

    def take(self, behaviour, state, letter, **more):
        return row_taken(made(behaviour), state, letter, **more)

    def late(self, behaviour, state, **more):
        return row_late(made(behaviour), state, **more)

    def check_same(self, maker, behaviour, rows):
        """What the tree tells, which the rows tell, too."""
        state = (behaviour[0], maker.values(len(behaviour[1])), maker.chance.randrange(6))
        address = maker.address()
        around = maker.around(address)
        late = late_taken(behaviour, state, address=address, around=around)
        self.assertEqual(row_late(rows, state, address=address, around=around), late)
        found = [late]
        for _ in range(4):
            letter = maker.letter(behaviour)
            told = taken(behaviour, state, letter, address=address, around=around)
            self.assertEqual(row_taken(rows, state, letter, address=address, around=around), told)
            self.assertEqual(told is None, fitting(behaviour, state[1], letter, address=address) is None)
            found.append(told)
        return found

    def test_made_up_ones(self):
        maker = Maker(29)
        counts = {}
        for _ in range(250):
            code = maker.code()
            rows = dict(made_code(code))
            for behaviour in code:
                for told in self.check_same(maker, behaviour, rows[behaviour[0]]):
                    words = ["none"] if told is None else [deed[0] for deed in told[0]] + [told[1][0]]
                    for word in words:
                        counts[word] = counts.get(word, 0) + 1
        for word in ("none", "send", "make", "link", "unlink", "watch", "trap", "name", "ask", "tell", "go", "end"):
            self.assertGreater(counts.get(word, 0), 20, word)

    def test_code_that_was_written_read_made_and_led_back(self):
        maker = Maker(30)
        for _ in range(60):
            code = read_code(shown_code(maker.code()))
            rows = made_code(code)
            for behaviour, other, (_, made_rows) in zip(code, unmade(rows), rows):
                self.assertEqual(behaviour, other)
                self.check_same(maker, behaviour, made_rows)
