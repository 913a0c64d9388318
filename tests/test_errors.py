"""The exceptions: what they derive from, and their fields."""

import unittest

from handwalk import errors
from tests.samples import QuickTestCase, deep_values

FIELDS = {
    "InvalidNetwork": ("part", "index"),
    "InvalidPlace": ("value",),
    "InvalidPassage": ("value",),
    "InvalidState": ("part",),
    "InvalidWalk": ("index",),
    "InvalidPermutation": ("value",),
    "SizeMismatch": ("sizes",),
    "InvalidAnswer": ("part",),
    "LimitExceeded": ("limit",),
    "InvalidThing": ("value",),
    "InvalidPosition": ("value",),
    "InvalidKinds": ("part", "index"),
    "NothingToUndo": (),
    "ParseError": ("line", "word"),
}


class TestErrors(QuickTestCase):
    def test_the_base_class_is_a_value_error(self):
        self.assertEqual(errors.HandwalkError.__bases__, (ValueError,))

    def test_the_others_derive_from_it_alone(self):
        for name in FIELDS:
            with self.subTest(name):
                self.assertEqual(getattr(errors, name).__bases__, (errors.HandwalkError,))

    def test_each_is_a_value_error_and_of_no_other_class_of_the_package(self):
        for name, fields in FIELDS.items():
            error = getattr(errors, name)(*fields)
            for other in ("HandwalkError", *FIELDS):
                self.assertIs(isinstance(error, getattr(errors, other)), other in (name, "HandwalkError"))
            self.assertIsInstance(error, ValueError)

    def test_there_are_no_further_ones(self):
        found = [name for name, value in vars(errors).items() if isinstance(value, type)]
        self.assertEqual(sorted(found), sorted(["HandwalkError", *FIELDS]))

    def test_each_is_defined_in_the_module(self):
        for name in ("HandwalkError", *FIELDS):
            with self.subTest(name):
                self.assertEqual(getattr(errors, name).__module__, "handwalk.errors")
                self.assertEqual(getattr(errors, name).__name__, name)

    def test_the_fields_are_the_objects_that_were_passed(self):
        for name, fields in FIELDS.items():
            values = [[name, k] for k in range(len(fields))]
            by_position = getattr(errors, name)(*values)
            by_name = getattr(errors, name)(**dict(zip(fields, values)))
            for field, value in zip(fields, values):
                with self.subTest(name, field=field):
                    self.assertIs(getattr(by_position, field), value)
                    self.assertIs(getattr(by_name, field), value)

    def test_the_index_may_be_missing(self):
        for error_class in (errors.InvalidNetwork, errors.InvalidKinds):
            self.assertIsNone(error_class("kinds").index)
            self.assertIsNone(error_class(part="kinds").index)
            self.assertEqual(error_class("kinds", 0).index, 0)

    def test_other_parameters_may_not_be_missing(self):
        for name, fields in FIELDS.items():
            with self.subTest(name):
                if fields:
                    self.assertRaises(TypeError, getattr(errors, name))
                self.assertRaises(TypeError, getattr(errors, name), *fields, None)

    def test_they_can_be_caught_as_the_base_class(self):
        for name, fields in FIELDS.items():
            with self.subTest(name), self.assertRaises(errors.HandwalkError):
                raise getattr(errors, name)(*fields)

    def test_their_texts_are_short_whatever_the_value(self):
        for value in deep_values():
            for name, fields in FIELDS.items():
                error = getattr(errors, name)(*[value] * len(fields))
                self.assertTrue(0 < len(str(error)) < 200)
                self.assertTrue(len(repr(error)) < 200)


if __name__ == "__main__":
    unittest.main()
