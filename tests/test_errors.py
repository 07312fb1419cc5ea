"""The errors: their classes and fields."""

import inspect
import unittest

from risingread import errors
from risingread.errors import RisingError

FIELDS = {
    "NoNumeral": ["at"], "NoPlace": ["place"], "Overflow": ["value"], "Unlike": [], "NoDivisor": [],
    "NoText": ["at"], "NoOrder": [], "TooMany": ["most"], "NoScheme": ["part", "at"],
    "NoPlan": ["part", "at"], "NoPromise": ["promise"], "NoName": ["name"], "NoLook": [],
    "NoBases": ["name"], "NoVersion": ["name"], "Fallen": ["name", "place"], "Busy": [], "Idle": [],
    "Held": [], "NoCells": [], "NoCell": [], "BadRun": ["part", "at"], "Spent": [],
    "Unheard": ["missing"], "NoReading": ["reading"], "NotPattern": [], "NotSeen": ["one", "other"],
    "NotMoments": ["at"], "NotEvents": ["at"], "NoRight": ["at"], "NotForced": ["place", "x", "y"],
    "BadStep": ["at"], "NoMark": ["name"], "BadText": ["line", "word"], "NoLine": [],
}


class TestErrors(unittest.TestCase):

    def test_the_module_has_just_these_classes(self):
        found = [name for name, thing in vars(errors).items() if inspect.isclass(thing)]
        self.assertEqual(sorted(found), sorted(list(FIELDS) + ["RisingError"]))

    def test_each_is_directly_under_rising_error(self):
        self.assertEqual(RisingError.__bases__, (ValueError,))
        for name in FIELDS:
            with self.subTest(name):
                self.assertEqual(getattr(errors, name).__bases__, (RisingError,))

    def test_each_is_defined_in_the_module(self):
        for name in list(FIELDS) + ["RisingError"]:
            self.assertEqual(getattr(errors, name).__module__, "risingread.errors")

    def test_fields_are_attributes_in_their_order(self):
        for name, fields in FIELDS.items():
            with self.subTest(name):
                if fields:
                    told = [["thing", at] for at in range(len(fields))]
                    error = getattr(errors, name)(*told)
                    self.assertEqual([getattr(error, field) for field in fields], told)
                    self.assertEqual(list(vars(error)), fields)

    def test_as_many_values_as_fields_are_asked_for(self):
        for name, fields in FIELDS.items():
            with self.subTest(name):
                if fields:
                    self.assertRaises(TypeError, getattr(errors, name), *fields[1:])
                    self.assertRaises(TypeError, getattr(errors, name), *fields, 0)

    def test_those_without_fields_are_made_with_one_text(self):
        for name, fields in FIELDS.items():
            with self.subTest(name):
                if not fields:
                    error = getattr(errors, name)("why it is so")
                    self.assertEqual(str(error), "why it is so")
                    self.assertEqual(vars(error), {})

    def test_each_is_caught_as_a_value_error_and_not_as_another_one(self):
        for name, fields in FIELDS.items():
            with self.subTest(name):
                error = getattr(errors, name)(*(fields or ["text"]))
                self.assertIsInstance(error, ValueError)
                others = [other for other in FIELDS if isinstance(error, getattr(errors, other))]
                self.assertEqual(others, [name])


if __name__ == "__main__":
    unittest.main()
