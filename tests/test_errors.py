"""Point 9: refusals, their families and their fields."""

import inspect
import unittest

from letterfolk import errors

FAMILIES = {
    "PaperError": {"NoPaper": ("word", "at"), "NoTrace": ("word", "at"), "NoCode": ("word", "at")},
    "RunError": {"NoFolk": ("address",), "NoStep": ("word",), "NoBack": ("times",)},
    "TextError": {"NoText": ("line", "word"), "NoLine": ("line",)},
}
REFUSALS = {name: (family, fields) for family, named in FAMILIES.items() for name, fields in named.items()}


class Untouched:
    """A thing that is no plain one: whoever looks at it fails."""

    def _fail(self, *_):
        raise AssertionError("a refusal looked at what it keeps")

    __eq__ = __hash__ = __repr__ = __str__ = __bool__ = __len__ = __iter__ = __lt__ = _fail


class Errors(unittest.TestCase):
    def test_bases_and_families(self):
        self.assertEqual(errors.FolkError.__bases__, (ValueError,))
        for family in FAMILIES:
            self.assertEqual(getattr(errors, family).__bases__, (errors.FolkError,))
        for name, (family, _) in REFUSALS.items():
            with self.subTest(name=name):
                self.assertEqual(getattr(errors, name).__bases__, (getattr(errors, family),))

    def test_classes_are_defined_there(self):
        for name in ("FolkError", *FAMILIES, *REFUSALS):
            self.assertEqual(getattr(errors, name).__module__, "letterfolk.errors")

    def test_arguments_have_the_names_of_the_fields(self):
        for name, (_, fields) in REFUSALS.items():
            with self.subTest(name=name):
                found = inspect.signature(getattr(errors, name)).parameters
                self.assertEqual(tuple(found), fields)
                for parameter in found.values():
                    self.assertIs(parameter.default, inspect.Parameter.empty)
                    self.assertIs(parameter.kind, inspect.Parameter.POSITIONAL_OR_KEYWORD)

    def test_keeps_the_very_things_by_places(self):
        for name, (_, fields) in REFUSALS.items():
            things = [[field] for field in fields]
            error = getattr(errors, name)(*things)
            for field, thing in zip(fields, things):
                self.assertIs(getattr(error, field), thing)

    def test_keeps_the_very_things_by_names_in_any_order(self):
        for name, (_, fields) in REFUSALS.items():
            things = {field: [field] for field in reversed(fields)}
            error = getattr(errors, name)(**things)
            for field, thing in things.items():
                self.assertIs(getattr(error, field), thing)

    def test_fields_are_not_exchanged(self):
        error = errors.NoText("line", "word")
        self.assertEqual((error.line, error.word), ("line", "word"))
        for refusal in (errors.NoPaper, errors.NoTrace, errors.NoCode):
            error = refusal("word", "at")
            self.assertEqual((error.word, error.at), ("word", "at"))

    def test_plain_things_stay_of_their_kind(self):
        for thing in (True, False, 0, 1, -1, None, "", "a", (), [], (1, [2]), 10 ** 200):
            for name, (_, fields) in REFUSALS.items():
                error = getattr(errors, name)(*[thing for _ in fields])
                for field in fields:
                    self.assertIs(getattr(error, field), thing)

    def test_looks_at_nothing(self):
        for name, (_, fields) in REFUSALS.items():
            things = [Untouched() for _ in fields]
            for error in (getattr(errors, name)(*things), getattr(errors, name)(**dict(zip(fields, things)))):
                for field, thing in zip(fields, things):
                    self.assertIs(getattr(error, field), thing)

    def test_lists_stay_as_they_are(self):
        kept = [1, [2]]
        error = errors.NoFolk(kept)
        self.assertEqual(kept, [1, [2]])
        kept.append(3)
        self.assertEqual(error.address, [1, [2], 3])

    def test_is_caught_by_its_own_family_alone(self):
        bases = {"FolkError", *FAMILIES, *REFUSALS}
        for name, (family, fields) in REFUSALS.items():
            error = getattr(errors, name)(*fields)
            caught = {base for base in bases if isinstance(error, getattr(errors, base))}
            self.assertEqual(caught, {name, family, "FolkError"})
            self.assertIsInstance(error, ValueError)

    def test_is_raised_and_caught(self):
        for name, (family, fields) in REFUSALS.items():
            for base in (name, family, "FolkError"):
                with self.subTest(name=name, base=base), self.assertRaises(getattr(errors, base)):
                    raise getattr(errors, name)(*fields)
            with self.assertRaises(ValueError):
                raise getattr(errors, name)(*fields)
            for wrong in (KeyError, LookupError, TypeError, ArithmeticError):
                self.assertFalse(issubclass(getattr(errors, name), wrong))

    def test_other_than_its_fields_it_takes_none(self):
        for name, (_, fields) in REFUSALS.items():
            with self.assertRaises(TypeError):
                getattr(errors, name)()
            with self.assertRaises(TypeError):
                getattr(errors, name)(*fields, "more")
