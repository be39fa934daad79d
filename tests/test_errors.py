"""Promise [1], of errors: their classes, and their arguments as attributes of the same names."""

import unittest

from onesolid import errors
from told_names import ERRORS


class Errors(unittest.TestCase):

    def test_solid_error_stands_directly_beneath_value_error(self):
        self.assertEqual(errors.SolidError.__bases__, (ValueError,))
        self.assertEqual(errors.SolidError.__module__, "onesolid.errors")

    def test_each_error_stands_directly_beneath_solid_error(self):
        for name in ERRORS:
            with self.subTest(name):
                error = getattr(errors, name)
                self.assertEqual(error.__bases__, (errors.SolidError,))
                self.assertEqual(error.__module__, "onesolid.errors")
                self.assertEqual(error.__name__, name)

    def test_no_two_errors_are_one(self):
        self.assertEqual(len({getattr(errors, name) for name in ERRORS}), 17)

    def test_arguments_by_position_are_attributes(self):
        for name, fields in ERRORS.items():
            with self.subTest(name):
                values = [("a value", field) for field in fields]
                error = getattr(errors, name)(*values)
                for field, value in zip(fields, values):
                    self.assertIs(getattr(error, field), value)

    def test_arguments_by_name_are_attributes(self):
        for name, fields in ERRORS.items():
            with self.subTest(name):
                values = {field: [field] for field in fields}
                error = getattr(errors, name)(**values)
                for field, value in values.items():
                    self.assertIs(getattr(error, field), value)

    def test_errors_are_raised_and_caught_as_value_errors(self):
        for name, fields in ERRORS.items():
            with self.subTest(name):
                with self.assertRaises(ValueError):
                    raise getattr(errors, name)(*fields)


if __name__ == "__main__":
    unittest.main()
