"""What the test cases share."""

import unittest


class Case(unittest.TestCase):
    def check_raises(self, error, value, call, *args, **named):
        """The call raises just this error, with this very value."""
        with self.assertRaises(error) as held:
            call(*args, **named)
        self.assertIs(type(held.exception), error)
        self.assertIs(held.exception.value, value)

    def check_raises_with(self, error, values, call, *args, **named):
        """The call raises just this error, with a tuple of these very values."""
        with self.assertRaises(error) as held:
            call(*args, **named)
        self.assertIs(type(held.exception), error)
        value = held.exception.value
        self.assertIs(type(value), tuple)
        self.assertEqual(len(value), len(values))
        for got, given in zip(value, values):
            self.assertIs(got, given)

    def check_equal(self, one, other):
        """The two are equal by both signs, from both sides."""
        for left, right in ((one, other), (other, one)):
            self.assertIs(left == right, True)
            self.assertIs(left != right, False)

    def check_unequal(self, one, other):
        for left, right in ((one, other), (other, one)):
            self.assertIs(left == right, False)
            self.assertIs(left != right, True)
