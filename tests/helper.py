"""What the tests share."""

import inspect
import unittest
from fractions import Fraction

from dearestshelf import errors
from dearestshelf.ratios import Ratio

LISTED_ERRORS = [
    error
    for error in vars(errors).values()
    if inspect.isclass(error) and issubclass(error, ValueError) and error is not errors.ShelfError
]


def fraction(ratio):
    """Return a Ratio as a Fraction, after a look at its fields."""
    if type(ratio) is not Ratio or type(ratio.top) is not int or type(ratio.bottom) is not int:
        raise AssertionError(f"not a Ratio of whole numbers: {ratio!r}")
    found = Fraction(ratio.top, ratio.bottom)
    if (found.numerator, found.denominator) != (ratio.top, ratio.bottom):
        raise AssertionError(f"not in lowest terms: {ratio.top}/{ratio.bottom}")
    return found


def written(ratios):
    """Return the written forms of a list of Ratios."""
    return [str(fraction(ratio)) for ratio in ratios]


class ShelfTest(unittest.TestCase):
    def check_error(self, error, told):
        """Check the kinds of an error: ShelfError, ValueError, and no other class of the list."""
        self.assertIs(type(error), told)
        self.assertIsInstance(error, errors.ShelfError)
        self.assertIsInstance(error, ValueError)
        for other in LISTED_ERRORS:
            self.assertEqual(isinstance(error, other), other is told)

    def assert_raises(self, told, fields, call, *values, **named):
        """Check that the call raises just this error with just these fields."""
        with self.assertRaises(ValueError) as caught:
            call(*values, **named)
        self.check_error(caught.exception, told)
        self.assertEqual(vars(caught.exception), fields)

    def assert_number(self, what, at, call, *values, **named):
        self.assert_raises(errors.BadNumber, {"what": what, "at": at}, call, *values, **named)

    def assert_ratio(self, ratio, top, bottom=1):
        self.assertEqual(fraction(ratio), Fraction(top, bottom))

    def assert_interface(self, holder, signatures):
        """Check names and arguments of what a module or a class itself holds."""
        for name, told in signatures.items():
            found = vars(holder)[name]
            if isinstance(found, (staticmethod, classmethod)):
                found = getattr(holder, name)
            self.assertEqual(str(inspect.signature(found)), told, name)
            if inspect.ismodule(holder):
                self.assertEqual(found.__module__, holder.__name__, name)
