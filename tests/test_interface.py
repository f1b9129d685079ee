"""Points 2 and 9, and the interface: where each name stands, which arguments it has, which may be left out."""

import importlib
import inspect
import unittest

FUNCTIONS = {
    "kinds": {
        "is_word": "(thing)", "is_address": "(thing)", "is_value": "(thing)", "is_letter": "(thing)",
    },
    "sums": {
        "is_sum": "(thing)", "bound": "(bindings, *, names, values)",
        "worth": "(amount, *, bindings=(), address=('at', 0, 0))",
    },
    "trees": {
        "is_act": "(thing)", "is_next": "(thing)", "is_arm": "(thing)", "is_late": "(thing)",
        "is_behaviour": "(thing)", "namings": "(behaviour)",
    },
    "looks": {"is_code": "(thing)", "lets_code": "(thing)", "behaviour_at": "(code, name)"},
    "codetexts": {"shown_code": "(code)"},
    "codereader": {"read_code": "(text)"},
    "sumrows": {
        "sum_rows": "(amount)", "run_sums": "(rows, *, bindings=(), address=('at', 0, 0), pile=())",
    },
    "coderows": {"made": "(behaviour)", "made_code": "(code)"},
    "rowsback": {"unmade": "(rows)"},
    "hangs": {"hang_on": "(code, name)"},
    "edits": {"code_changes": "(one, other)", "made_again": "(one, other, *, rows)"},
    "fitting": {
        "fitting": "(behaviour, values, letter, *, address=('at', 0, 0))",
        "waits_of": "(behaviour, values, *, address=('at', 0, 0))",
    },
    "hands": {"whom": "(words, word)"},
    "treetaking": {
        "taken": "(behaviour, state, letter, *, address, around)",
        "late_taken": "(behaviour, state, *, address, around)",
    },
    "rowtaking": {
        "row_fitting": "(rows, values, letter, *, address=('at', 0, 0))",
        "row_waits": "(rows, values, *, address=('at', 0, 0))",
        "row_taken": "(rows, state, letter, *, address, around)",
        "row_late": "(rows, state, *, address, around)",
    },
    "mailboxes": {"look_through": "(library, state, mailbox, *, address)"},
    "houses": {
        "void_house": "(h, *, clock=0, made=0, loaded=(0,))", "life_of": "(house, number)", "around_of": "(house)",
    },
    "editions": {"is_library": "(thing)", "load": "(library, loaded, edition)"},
    "leading": {
        "state_led": "(library, state, *, to)", "letter_led": "(library, letter, *, edition, to)",
        "looked": "(library, letter, *, edition, own)",
    },
    "moving": {"moved": "(library, loaded, state)"},
    "keepers": {"is_plan": "(library, thing)"},
    "beginnings": {"begun": "(row, *, house, n, by=None)"},
    "answers": {
        "answer": "(keeper, address, reason, *, clock)", "falling": "(keeper, reason)",
        "placed": "(keeper, k, address)", "is_child": "(keeper, address)",
    },
    "shapes": {"sheet_of": "(house)", "shape_of": "(sheet, address)"},
    "shapechecker": {"lets_shape": "(sheet, address, thing)"},
    "spacing": {"spaced": "(ticks, *, within)", "breach_of": "(ticks, *, most, within)"},
    "breachchecker": {"lets_breach": "(ticks, thing, *, most, within)"},
    "rowleading": {"row_led": "(library, loaded, row)"},
    "ends": {"rooted": "(house, root)", "ended": "(house, number, reason, *, whose=None)"},
    "acting": {
        "ready": "(library, house, *, by='rows')", "acted": "(library, house, number, *, by='rows')",
    },
    "comings": {
        "delivered": "(house, sender, to, thing)", "parted_from": "(house, other)",
        "words_told": "(house, word, address, *, has=True)", "ticked": "(house)",
    },
    "houseloads": {"house_loaded": "(library, house, edition, *, root=None)"},
    "lands": {"land_of": "(library, roots)"},
    "wires": {"things_on_way": "(land)"},
    "landsteps": {"step": "(land, thing)", "ready_steps": "(land)"},
    "landruns": {"run": "(land, steps, *, most=200)", "until_quiet": "(land, *, by=(), most=200)"},
    "plainlands": {"plain_of": "(land)"},
    "plainsteps": {"plain_step": "(plain, thing)"},
    "plainpapers": {"plain_paper": "(land, steps)"},
    "plainchecker": {"lets_plain": "(land, steps, thing)"},
    "fates": {"fates_of": "(log)", "losses_of": "(log)"},
    "traces": {"trace_of": "(log, *, houses)"},
    "tracechecker": {"lets_trace": "(thing, *, library, roots)"},
    "explaining": {"steps_for": "(trace, *, library, roots)"},
    "stories": {"story_of": "(trace, address, *, library, roots)"},
    "thingtexts": {"shown_thing": "(thing)", "shown_steps": "(steps)"},
    "thingreader": {"read_thing": "(text, *, line=0)", "read_steps": "(text)"},
}

CLASSES = {
    ("village", "Village"): {
        "__init__": "(self, library, *, roots)", "step": "(self, thing)", "run": "(self, steps, *, most=200)", "back": "(self, *, times=1)", "then": "(self, k)", "land": "(self)",
        "steps": "(self)", "log": "(self)", "trace": "(self)", "paper": "(self)", "fates": "(self)", "losses": "(self)", "story": "(self, address)", "counts": "(self)",
        "__len__": "(self)", "__str__": "(self)", "__eq__": "(self, other)",
    },
    ("desk", "Desk"): {"__init__": "(self)", "say": "(self, row)", "counts": "(self)"},
}


class Interface(unittest.TestCase):
    def test_arguments_are_as_listed(self):
        for file, functions in FUNCTIONS.items():
            module = importlib.import_module(f"letterfolk.{file}")
            for name, arguments in functions.items():
                with self.subTest(file=file, name=name):
                    self.assertEqual(str(inspect.signature(getattr(module, name))), arguments)

    def test_functions_are_defined_where_they_are_listed(self):
        for file, functions in FUNCTIONS.items():
            module = importlib.import_module(f"letterfolk.{file}")
            for name in functions:
                with self.subTest(file=file, name=name):
                    self.assertTrue(inspect.isfunction(getattr(module, name)))
                    self.assertEqual(getattr(module, name).__module__, f"letterfolk.{file}")

    def test_methods_stand_in_the_classes_themselves(self):
        for (file, name), methods in CLASSES.items():
            kind = getattr(importlib.import_module(f"letterfolk.{file}"), name)
            self.assertEqual(kind.__module__, f"letterfolk.{file}")
            for method, arguments in methods.items():
                with self.subTest(file=file, name=name, method=method):
                    self.assertEqual(str(inspect.signature(vars(kind)[method])), arguments)

    def test_the_limit(self):
        landruns = importlib.import_module("letterfolk.landruns")
        self.assertEqual((landruns.LIMIT, type(landruns.LIMIT)), (200, int))

    def test_nobody(self):
        sums = importlib.import_module("letterfolk.sums")
        self.assertEqual(sums.NOBODY, ("at", 0, 0))
        self.assertIs(type(sums.NOBODY), tuple)
