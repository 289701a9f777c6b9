"""The exceptions."""

import unittest

from quietstreets import errors

NAMES = (
    "InvalidTown", "InvalidSigns", "InvalidSign", "InvalidDrive", "InvalidPlace",
    "InvalidStreet", "InvalidDemand", "InvalidOffers", "InvalidNumber", "NotGood",
    "NoTown", "NotOffered", "Bought", "NothingToUndo", "ParseError",
)


class Errors(unittest.TestCase):
    def test_base_is_a_value_error(self):
        self.assertEqual(errors.TownError.__bases__, (ValueError,))
        self.assertEqual(errors.TownError.__name__, "TownError")

    def test_fifteen_direct_subclasses(self):
        for name in NAMES:
            with self.subTest(name):
                self.assertEqual(getattr(errors, name).__bases__, (errors.TownError,))
                self.assertEqual(getattr(errors, name).__name__, name)

    def test_they_are_different_classes(self):
        self.assertEqual(len({getattr(errors, name) for name in NAMES}), 15)

    def test_defined_in_their_file(self):
        for name in NAMES + ("TownError",):
            self.assertEqual(getattr(errors, name).__module__, "quietstreets.errors")

    def test_none_is_caught_by_the_name_of_another(self):
        for name in NAMES:
            for other in NAMES:
                if other != name:
                    self.assertFalse(issubclass(getattr(errors, name), getattr(errors, other)))

    def test_raised_and_caught(self):
        for name in NAMES:
            with self.assertRaises(errors.TownError):
                raise getattr(errors, name)("why")
            with self.assertRaises(ValueError):
                raise getattr(errors, name)
