"""[3]: the errors."""

import unittest

from namedmeets import errors
from namedmeets.values import Made
from tests.helpers import chain

FIELDS = {
    "BadText": ("line", "column"),
    "BadProgram": ("line", "what"),
    "BadValue": ("value", "why"),
    "BadName": ("name",),
    "NoName": ("name",),
    "TakenName": ("name",),
    "BadNumber": ("what", "number"),
    "TooMany": ("what", "many", "limit"),
    "BadNet": ("what",),
    "NotKept": ("promise", "witness"),
    "NothingToUndo": (),
    "NothingToRedo": (),
}


class Errors(unittest.TestCase):
    def test_fields_are_kept_as_given(self):
        some = [1, "a", None, [1, [2]], {"k": ()}, Made("A", ()), object(), 2.5, True, chain(3000, 0)]
        for name, fields in FIELDS.items():
            for k in range(len(some)):
                given = [some[(k + at) % len(some)] for at in range(len(fields))]
                error = getattr(errors, name)(*given)
                for field, value in zip(fields, given):
                    self.assertIs(getattr(error, field), value, (name, field))

    def test_lists_in_fields_are_not_copied(self):
        values = [1, 2]
        error = errors.BadValue(values, "count")
        values.append(3)
        self.assertIs(error.value, values)
        self.assertEqual(error.value, [1, 2, 3])

    def test_each_takes_just_its_fields(self):
        for name, fields in FIELDS.items():
            if fields:
                with self.assertRaises(TypeError):
                    getattr(errors, name)()
                with self.assertRaises(TypeError):
                    getattr(errors, name)(*[0] * (len(fields) + 1))

    def test_each_is_a_join_error_and_a_value_error(self):
        self.assertEqual(errors.JoinError.__bases__, (ValueError,))
        for name, fields in FIELDS.items():
            error = getattr(errors, name)(*fields)
            self.assertIsInstance(error, errors.JoinError)
            self.assertIsInstance(error, ValueError)
            self.assertEqual(error.__class__.__bases__, (errors.JoinError,))
            self.assertEqual(error.__class__.__module__, "namedmeets.errors")

    def test_none_is_another_one(self):
        for name, fields in FIELDS.items():
            error = getattr(errors, name)(*fields)
            for other in FIELDS:
                self.assertEqual(isinstance(error, getattr(errors, other)), other == name, (name, other))

    def test_they_can_be_raised_and_caught(self):
        for name, fields in FIELDS.items():
            with self.assertRaises(errors.JoinError):
                raise getattr(errors, name)(*fields)


if __name__ == "__main__":
    unittest.main()
