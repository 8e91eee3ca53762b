"""What the tests share."""

import inspect
import itertools
import unittest
from fractions import Fraction

from dearestshelf import errors
from dearestshelf.ratios import Ratio

LISTED_ERRORS = [
    error
    for error in vars(errors).values()
    if inspect.isclass(error) and issubclass(error, ValueError) and error is not errors.ShelfError
]


def fraction(ratio):
    """Return a Ratio as a Fraction, after a look at its fields."""
    if type(ratio) is not Ratio or type(ratio.top) is not int or type(ratio.bottom) is not int:
        raise AssertionError(f"not a Ratio of whole numbers: {ratio!r}")
    found = Fraction(ratio.top, ratio.bottom)
    if (found.numerator, found.denominator) != (ratio.top, ratio.bottom):
        raise AssertionError(f"not in lowest terms: {ratio.top}/{ratio.bottom}")
    return found


def written(ratios):
    """Return the written forms of a list of Ratios."""
    return [str(fraction(ratio)) for ratio in ratios]


class ShelfTest(unittest.TestCase):
    def check_error(self, error, told):
        """Check the kinds of an error: ShelfError, ValueError, and no other class of the list."""
        self.assertIs(type(error), told)
        self.assertIsInstance(error, errors.ShelfError)
        self.assertIsInstance(error, ValueError)
        for other in LISTED_ERRORS:
            self.assertEqual(isinstance(error, other), other is told)

    def assert_raises(self, told, fields, call, *values, **named):
        """Check that the call raises just this error with just these fields."""
        with self.assertRaises(ValueError) as caught:
            call(*values, **named)
        self.check_error(caught.exception, told)
        self.assertEqual(vars(caught.exception), fields)

    def assert_number(self, what, at, call, *values, **named):
        self.assert_raises(errors.BadNumber, {"what": what, "at": at}, call, *values, **named)

    def assert_ratio(self, ratio, top, bottom=1):
        self.assertEqual(fraction(ratio), Fraction(top, bottom))

    def assert_interface(self, holder, signatures):
        """Check names and arguments of what a module or a class itself holds."""
        for name, told in signatures.items():
            found = vars(holder)[name]
            if isinstance(found, (staticmethod, classmethod)):
                found = getattr(holder, name)
            self.assertEqual(str(inspect.signature(found)), told, name)
            if inspect.ismodule(holder):
                self.assertEqual(found.__module__, holder.__name__, name)

    def assert_shares(self, rule, lot, told):
        """Check shares, also what goes away, also that a change of the returned list has no effect."""
        told = [Fraction(share) for share in told]
        shares = rule.shares(lot)
        self.assertIs(type(shares), list)
        self.assertEqual([fraction(share) for share in shares], told)
        self.assertEqual(fraction(rule.away(lot)), 1 - sum(told))
        self.assertEqual(fraction(sum(shares, start=rule.away(lot))), 1)
        shares.clear()
        for share in rule.shares(lot):
            share.top = 99
        self.assertEqual([fraction(share) for share in rule.shares(lot)], told)

    def assert_best(self, rule, prices, lot, worth):
        """Check `best`, also that the prices stay as they were."""
        kept = list(prices)
        found = rule.best(prices)
        self.assertIs(type(found), tuple)
        self.assertEqual((found[0], fraction(found[1])), (lot, Fraction(worth)))
        self.assertIs(type(found[0]), tuple)
        self.assertEqual(prices, kept)

    def assert_best_dearest(self, rule, prices, k, worth):
        kept = list(prices)
        found = rule.best_dearest(prices)
        self.assertIs(type(found), tuple)
        self.assertEqual((found[0], fraction(found[1])), (k, Fraction(worth)))
        self.assertEqual(prices, kept)

    def assert_best_of_all_lots(self, rule, prices):
        """Check `best` and `best_dearest` against the worths of all lots."""
        worths = {lot: told_worth(rule, lot, prices) for lot in all_lots(rule.many)}
        greatest = max(worths.values())
        lot = min((lot for lot in worths if worths[lot] == greatest), key=lambda told: (len(told), told[::-1]))
        self.assert_best(rule, prices, lot, greatest)
        order = sorted(range(rule.many), key=lambda thing: (-prices[thing], thing))
        ladder = [worths[tuple(sorted(order[:k]))] for k in range(rule.many + 1)]
        self.assert_best_dearest(rule, prices, ladder.index(max(ladder)), max(ladder))
        for lot, worth in worths.items():
            self.assertEqual(fraction(rule.worth(lot, prices)), worth)

    def assert_wrong_lots(self, rule):
        """Check that tuples that are no lots of a rule's things are refused."""
        for lot in wrong_lots(rule.many):
            self.assert_raises(errors.BadLot, {}, rule.shares, lot)
            self.assert_raises(errors.BadLot, {}, rule.away, lot)
            self.assert_raises(errors.BadLot, {}, rule.worth, lot, [1] * rule.many)

    def assert_wrong_prices(self, rule, *methods):
        """Check what methods with one argument, the prices, and `worth` say of wrong prices."""
        for prices, at in wrong_prices(rule.many):
            kept = list(prices)
            for method in methods:
                self.assert_number("prices", at, method, prices)
            for lot in [(), *wrong_lots(rule.many)]:
                self.assert_number("prices", at, rule.worth, lot, prices)
            self.assertEqual(prices, kept)


def all_lots(many):
    return [lot for size in range(many + 1) for lot in itertools.combinations(range(many), size)]


def wrong_lots(many):
    """Return tuples that are no lots of `many` things."""
    wrong = [(-1,), (many,), (10**59,), tuple(range(many + 1)), (-1, *range(many))]
    if many > 0:
        wrong = wrong + [(0, 0), (-2, 0), (0, many)]
    if many > 1:
        wrong = wrong + [(1, 0), (0, 1, 1), tuple(range(many))[::-1]]
    return wrong


def wrong_prices(many):
    """Return pairs of lists that are no prices of `many` things, and of the place that the error names."""
    wrong = [([1] * (many + 1), None), ([-1] * (many + 1), None)]
    if many > 0:
        wrong = wrong + [([1] * (many - 1), None), ([-1] * many, 0), ([1] * (many - 1) + [-1], many - 1)]
    return wrong


def told_worth(rule, lot, prices):
    """Return the worth of a lot, as a Fraction, from the shares alone."""
    return sum([fraction(share) * price for share, price in zip(rule.shares(lot), prices)], start=Fraction(0))
