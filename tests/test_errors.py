"""Point [2] and the interface's section on errors."""

import unittest

from downtoground import errors
from tests.helpers import strange_values

FIELDS = {
    "BadText": ("column",),
    "BadLine": ("line", "column"),
    "BadNumber": ("what", "number"),
    "BadRow": ("row",),
    "BadName": ("name",),
    "Unlike": ("what",),
    "Unbound": ("name",),
    "NoName": ("name",),
    "TakenName": ("name",),
    "Needed": ("name", "finding"),
    "NothingToUndo": (),
    "NothingToRedo": (),
    "BadStep": ("step",),
    "TooGreat": ("most",),
}


class ErrorsTest(unittest.TestCase):

    def test_there_are_fourteen_and_the_one_above_them(self):
        here = {name for name, value in vars(errors).items()
                if isinstance(value, type) and issubclass(value, Exception)}
        self.assertEqual(here, set(FIELDS) | {"SettleError"})
        self.assertEqual(len(FIELDS), 14)

    def test_the_one_above_them_is_a_value_error(self):
        self.assertEqual(errors.SettleError.__bases__, (ValueError,))

    def test_all_others_derive_directly_from_it_and_not_from_each_other(self):
        for name in FIELDS:
            self.assertEqual(getattr(errors, name).__bases__, (errors.SettleError,), name)
            for other in FIELDS:
                related = issubclass(getattr(errors, name), getattr(errors, other))
                self.assertEqual(related, name == other, (name, other))

    def test_fields_are_kept_just_as_they_are(self):
        values = strange_values() + [[1, [2]], {"a": [1]}, -3, 10 ** 50]
        for name, fields in FIELDS.items():
            for index in range(len(values)):
                told = [values[(index + step) % len(values)] for step in range(len(fields))]
                error = getattr(errors, name)(*told)
                for field, value in zip(fields, told):
                    self.assertIs(getattr(error, field), value, name)

    def test_fields_may_be_passed_by_name(self):
        for name, fields in FIELDS.items():
            told = {field: [index] for index, field in enumerate(fields)}
            error = getattr(errors, name)(**told)
            for field in fields:
                self.assertIs(getattr(error, field), told[field])

    def test_another_number_of_fields_is_barred(self):
        for name, fields in FIELDS.items():
            if fields:
                self.assertRaises(TypeError, getattr(errors, name), *([1] * (len(fields) + 1)))
                self.assertRaises(TypeError, getattr(errors, name), *([1] * (len(fields) - 1)))

    def test_each_is_caught_as_itself_and_as_the_one_above(self):
        for name, fields in FIELDS.items():
            kind = getattr(errors, name)
            for caught in (kind, errors.SettleError, ValueError):
                with self.assertRaises(caught) as held:
                    raise kind(*([7] * len(fields)))
                self.assertIsInstance(held.exception, kind)

    def test_an_error_is_equal_to_itself_alone(self):
        for name, fields in FIELDS.items():
            one = getattr(errors, name)(*([7] * len(fields)))
            other = getattr(errors, name)(*([7] * len(fields)))
            self.assertEqual(one, one)
            self.assertNotEqual(one, other)


if __name__ == "__main__":
    unittest.main()
