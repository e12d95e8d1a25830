"""Tests of point [5]."""

import unittest

from betweenlists import errors
from betweenlists.errors import BetweenError
from betweenlists.forms import Form
from tests.values import every_value

FIELDS = {
    "InvalidName": ("value",),
    "InvalidPlace": ("value",),
    "InvalidForm": ("value",),
    "InvalidLook": ("value",),
    "InvalidLog": ("value",),
    "InvalidRules": ("value",),
    "InvalidDemand": ("value",),
    "InvalidStory": ("value",),
    "InvalidChange": ("value",),
    "InvalidNumber": ("value",),
    "InvalidList": ("value",),
    "InvalidText": ("line",),
    "Missing": ("place",),
    "Occupied": ("place",),
    "Barred": ("one", "other"),
    "Failed": ("step", "why"),
    "Closed": (),
}


def classes():
    return [(getattr(errors, name), fields) for name, fields in FIELDS.items()]


class ErrorsTest(unittest.TestCase):
    def check_fields(self, error, fields, values):
        for field, value in zip(fields, values):
            self.assertIs(getattr(error, field), value)

    def test_there_are_seventeen(self):
        self.assertEqual(len(FIELDS), 17)
        own = [thing for thing in vars(errors).values() if isinstance(thing, type)]
        self.assertEqual({thing.__name__ for thing in own}, set(FIELDS) | {"BetweenError"})

    def test_derived_directly(self):
        self.assertEqual(BetweenError.__bases__, (ValueError,))
        for made, _ in classes():
            self.assertEqual(made.__bases__, (BetweenError,))

    def test_of_no_other_class(self):
        for made, _ in classes():
            for error in [made()]:
                self.assertIsInstance(error, BetweenError)
                self.assertIsInstance(error, ValueError)
                for other, _ in classes():
                    self.assertEqual(isinstance(error, other), other is made)

    def test_without_values(self):
        for made, fields in classes():
            self.check_fields(made(), fields, [None] * len(fields))

    def test_by_position(self):
        for made, fields in classes():
            for value in every_value():
                values = [value, ["another"]][:len(fields)]
                self.check_fields(made(*values), fields, values)

    def test_by_name(self):
        for made, fields in classes():
            for value in every_value():
                values = [value, ["another"]][:len(fields)]
                self.check_fields(made(**dict(zip(fields, values))), fields, values)
                turned = dict(zip(reversed(fields), reversed(values)))
                self.check_fields(made(**turned), fields, values)

    def test_two_fields_in_part(self):
        for made, (first, second) in [(errors.Barred, ("one", "other")), (errors.Failed, ("step", "why"))]:
            value = ["this"]
            self.check_fields(made(value), (first, second), (value, None))
            self.check_fields(made(**{first: value}), (first, second), (value, None))
            self.check_fields(made(**{second: value}), (first, second), (None, value))
            self.check_fields(made(1, **{second: value}), (first, second), (1, value))

    def test_raised_and_caught(self):
        for made, fields in classes():
            value = [Form()]
            for caught in (made, BetweenError, ValueError):
                with self.assertRaises(caught) as held:
                    raise made(*[value] * len(fields))
                self.check_fields(held.exception, fields, [value] * len(fields))

    def test_a_cause_stays(self):
        why = errors.Missing(("a", "b"))
        with self.assertRaises(errors.Failed) as held:
            raise errors.Failed(3, why) from why
        self.assertIs(held.exception.why, held.exception.__cause__)
        self.assertEqual(held.exception.step, 3)
