"""Tests of cabmeters.errors: points [2] to [4] and the list in the interface."""

import unittest

from cabmeters import errors
from tests.samples import no_integers

WITH_GIVEN = (
    "BadTrip", "BadText", "BadSpeed", "BadWorths", "BadNumber", "BadTop", "BadTicks", "BadTick", "BadTables",
    "BadTurns", "BadWay", "BadPrice", "BadStand", "BadName", "NoFact", "BadStretches", "BadSpeeds", "BadTold",
    "BadClaim", "BadFault",
)
WITHOUT = ("NotPlain", "TooMany", "NothingToUndo")


class ErrorsTest(unittest.TestCase):
    def test_base_class(self):
        self.assertEqual(errors.MeterError.__bases__, (ValueError,))
        self.assertIsInstance(errors.MeterError(), ValueError)

    def test_all_others_derive_from_it_directly(self):
        for name in WITH_GIVEN + WITHOUT:
            with self.subTest(name=name):
                self.assertEqual(getattr(errors, name).__bases__, (errors.MeterError,))

    def test_all_are_defined_in_this_file(self):
        for name in ("MeterError",) + WITH_GIVEN + WITHOUT:
            with self.subTest(name=name):
                self.assertEqual(getattr(errors, name).__module__, "cabmeters.errors")
                self.assertEqual(getattr(errors, name).__name__, name)

    def test_no_further_errors(self):
        found = [name for name, value in vars(errors).items() if isinstance(value, type)]
        self.assertEqual(sorted(found), sorted(("MeterError",) + WITH_GIVEN + WITHOUT))

    def test_given_is_the_very_value(self):
        for name in WITH_GIVEN:
            for value in no_integers() + [5, 10 ** 29]:
                with self.subTest(name=name, value=value):
                    self.assertIs(getattr(errors, name)(value).given, value)

    def test_one_value_is_needed(self):
        for name in WITH_GIVEN:
            with self.subTest(name=name):
                self.assertRaises(TypeError, getattr(errors, name))
                self.assertRaises(TypeError, getattr(errors, name), 1, 2)

    def test_those_without_a_value(self):
        for name in ("MeterError",) + WITHOUT:
            with self.subTest(name=name):
                self.assertFalse(hasattr(getattr(errors, name)(), "given"))

    def test_they_are_caught_by_the_base_class(self):
        for name in WITH_GIVEN:
            with self.subTest(name=name), self.assertRaises(errors.MeterError):
                raise getattr(errors, name)([1])
        for name in WITHOUT:
            with self.subTest(name=name), self.assertRaises(errors.MeterError):
                raise getattr(errors, name)()


if __name__ == "__main__":
    unittest.main()
