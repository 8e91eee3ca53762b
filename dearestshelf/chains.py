"""Buyers who step on from thing to thing."""

from dearestshelf.checks import check_aside, check_each, check_length, check_lot, check_many, check_prices
from dearestshelf.errors import BadNumber
from dearestshelf.ratios import Ratio
from dearestshelf.rules import Rule

MOST_STEPPED_THINGS = 8


class Stepping(Rule):
    """The rule of buyers who look for one thing after another, until they find one or go away."""

    def __init__(self, first, aside, steps, leaves):
        check_many(len(first), MOST_STEPPED_THINGS)
        super().__init__(len(first))
        check_each("first", first, 1)
        check_aside(aside)
        _check_steps(steps, self.many)
        check_length("leaves", leaves, self.many)
        check_each("leaves", leaves, 1)
        self.first = tuple(first)
        self.aside = aside
        self.steps = tuple([tuple(row) for row in steps])
        self.leaves = tuple(leaves)

    @classmethod
    def like(cls, rule):
        """Return the rule of this kind that has the same shares as a Weighted rule."""
        things = range(rule.many)
        steps = [[0 if other == thing else rule.weights[other] for other in things] for thing in things]
        return cls(rule.weights, rule.aside, steps, [rule.aside] * rule.many)

    def shares(self, lot):
        """Return the share of the buyers that takes each thing while the lot stands."""
        check_lot(lot, self.many)
        missing = [thing for thing in range(self.many) if thing not in lot]
        return _rows_past(self._rows(), missing)[-1]

    def thing_values(self, prices):
        """Return what a buyer who looks for each thing brings on average, if the best lot stands."""
        *onward, _ = self._prospects(prices)
        return [onward[thing] if onward[thing] > prices[thing] else Ratio(prices[thing]) for thing in range(self.many)]

    def best(self, prices):
        """Return the lot with the greatest worth and the fewest things, and this worth."""
        *onward, worth = self._prospects(prices)
        return tuple([thing for thing in range(self.many) if prices[thing] > onward[thing]]), worth

    def _rows(self):
        """Return the chances to look for each thing next: of who steps on from each thing, and last of who comes in."""
        pairs = list(zip(self.steps, self.leaves)) + [(self.first, self.aside)]
        return [[Ratio(number, ends + sum(numbers)) for number in numbers] for numbers, ends in pairs]

    def _prospects(self, prices):
        """Return what the best lot brings of who steps on from each thing, and last of who comes in."""
        check_prices(prices, self.many)
        rows = self._rows()
        standing = list(range(self.many))
        means = _means(rows, prices)
        cheap = [thing for thing in standing if means[thing] > prices[thing]]
        # Means only rise while things are left out, so what is too cheap once does not belong to the best lot.
        while len(cheap) > 0:
            rows = _rows_past(rows, cheap)
            standing = [thing for thing in standing if thing not in cheap]
            means = _means(rows, prices)
            cheap = [thing for thing in standing if means[thing] > prices[thing]]
        return means


def _check_steps(steps, many):
    """Raise BadNumber if these are not the rows of steps of `many` things."""
    check_length("steps", steps, many)
    for thing, row in enumerate(steps):
        if len(row) != many or row[thing] != 0 or any([number < 0 for number in row]):
            raise BadNumber("steps", thing)


def _rows_past(rows, things):
    """Return the rows of chances for buyers who find none of these things and step on from each of them at once."""
    for thing in things:
        rows = _rows_past_one(rows, thing)
    return rows


def _rows_past_one(rows, thing):
    """Return the rows of chances for buyers who step on from this thing at once, again and again if it must be."""
    returns = rows[thing][thing]
    onward = [chance.over(1 - returns) for chance in rows[thing]]
    others = [other != thing for other in range(len(onward))]
    return [
        [row[at] + row[thing] * onward[at] if stays else Ratio(0) for at, stays in enumerate(others)] for row in rows
    ]


def _means(rows, prices):
    """Return for each row the sum of chance times price."""
    return [sum([chance * price for chance, price in zip(row, prices)], start=Ratio(0)) for row in rows]
