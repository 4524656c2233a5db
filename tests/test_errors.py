"""Point 11: the errors."""

import inspect
import unittest

from laidanyhow import errors
from tests.samples import odd_values

FIELDS = {
    "Wrong": ["place"], "NoText": ["line", "column"], "NoWorld": ["fault"], "NoLand": ["fault"], "Refused": [],
    "NoLaying": [], "NoTile": ["cell"], "NoGuide": ["bar"], "NoPick": ["index"], "NoNumber": ["many"],
    "TooMany": ["most"], "NoForget": [], "NoCommand": ["line"], "Nothing": [],
}


class Errors(unittest.TestCase):
    def test_one_base_class_each(self):
        self.assertEqual(errors.TileError.__bases__, (ValueError,))
        for name in FIELDS:
            self.assertEqual(getattr(errors, name).__bases__, (errors.TileError,), name)

    def test_signatures(self):
        for name, fields in FIELDS.items():
            told = inspect.signature(getattr(errors, name))
            self.assertEqual(list(told.parameters), fields, name)

    def test_too_few_or_too_many_arguments(self):
        for name, fields in FIELDS.items():
            with self.assertRaises(TypeError):
                getattr(errors, name)(*range(len(fields) + 1))
            if fields:
                with self.assertRaises(TypeError):
                    getattr(errors, name)(*range(len(fields) - 1))

    def test_fields_are_the_objects_themselves(self):
        values = odd_values()
        for name, fields in FIELDS.items():
            for place in range(len(values)):
                given = [values[place - number] for number in range(len(fields))]
                error = getattr(errors, name)(*given)
                for field, value in zip(fields, given):
                    self.assertIs(getattr(error, field), value)

    def test_no_copy_is_kept(self):
        bar = [[1], {"a": []}]
        error = errors.NoGuide(bar)
        bar[1]["a"].append(2)
        self.assertEqual(error.bar, [[1], {"a": [2]}])

    def test_raised_and_caught(self):
        for name, fields in FIELDS.items():
            with self.assertRaises(errors.TileError) as caught:
                raise getattr(errors, name)(*fields)
            self.assertEqual([getattr(caught.exception, field) for field in fields], fields)
            self.assertIs(caught.exception.__class__, getattr(errors, name))
            self.assertIsInstance(str(caught.exception), str)

    def test_no_other_errors(self):
        classes = [name for name, thing in vars(errors).items() if inspect.isclass(thing)]
        self.assertEqual(sorted(classes), sorted([*FIELDS, "TileError"]))
