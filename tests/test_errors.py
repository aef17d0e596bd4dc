"""[5]: the classes of the errors."""

import unittest

from cellplaces import errors
from samples import any_objects

FIELDS = {
    "InvalidText": "value",
    "InvalidForm": "value",
    "InvalidLetter": "value",
    "InvalidNumber": "value",
    "InvalidLoops": "value",
    "ShortLoop": "name",
    "InvalidShape": "value",
    "InvalidValues": "value",
    "InvalidCell": "value",
    "InvalidSides": "value",
    "InvalidTable": "value",
    "InvalidWalk": "value",
    "NoRoom": "place",
}
PLAIN = ["MismatchedShapes", "SharedPlaces", "NothingToUndo"]


class Errors(unittest.TestCase):

    def test_base_of_all(self):
        self.assertEqual(errors.CellError.__bases__, (ValueError,))
        self.assertIsInstance(errors.CellError(), ValueError)

    def test_each_is_derived_directly(self):
        for name in [*FIELDS, *PLAIN]:
            with self.subTest(name):
                self.assertEqual(getattr(errors, name).__bases__, (errors.CellError,))

    def test_no_other_classes(self):
        found = [name for name, worth in vars(errors).items() if isinstance(worth, type)]
        self.assertEqual(sorted(found), sorted([*FIELDS, *PLAIN, "CellError"]))

    def test_field_by_position(self):
        for name, field in FIELDS.items():
            for worth in any_objects():
                with self.subTest(name, worth=worth):
                    self.assertIs(getattr(getattr(errors, name)(worth), field), worth)

    def test_field_by_name(self):
        for name, field in FIELDS.items():
            for worth in any_objects():
                with self.subTest(name, worth=worth):
                    self.assertIs(getattr(getattr(errors, name)(**{field: worth}), field), worth)

    def test_field_left_out(self):
        for name, field in FIELDS.items():
            with self.subTest(name):
                self.assertIsNone(getattr(getattr(errors, name)(), field))

    def test_without_field(self):
        for name in PLAIN:
            with self.subTest(name):
                self.assertEqual(vars(getattr(errors, name)()), {})

    def test_raised_and_caught(self):
        for name in [*FIELDS, *PLAIN]:
            with self.subTest(name), self.assertRaises(errors.CellError) as caught:
                raise getattr(errors, name)()
            self.assertEqual(caught.exception.__class__.__name__, name)


if __name__ == "__main__":
    unittest.main()
