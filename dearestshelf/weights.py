"""Buyers by weights."""

from dearestshelf.checks import check_aside, check_each, check_lot
from dearestshelf.ratios import Ratio, common_divisor
from dearestshelf.rules import Rule


class Weighted(Rule):
    """The rule of buyers by weights."""

    def __init__(self, weights, aside):
        super().__init__(len(weights))
        check_each("weights", weights, 1)
        check_aside(aside)
        self.weights = tuple(weights)
        self.aside = aside

    def shares(self, lot):
        """Return the share of the buyers that takes each thing while the lot stands."""
        check_lot(lot, self.many)
        total = self.aside + sum([self.weights[thing] for thing in lot])
        return [Ratio(self.weights[thing] if thing in lot else 0, total) for thing in range(self.many)]

    def best(self, prices):
        """Return the lot with the greatest worth and the fewest things, and this worth."""
        # A thing raises the worth of a lot just if its price is greater than that worth, so the dearest k
        # things reach the greatest worth, and those of them whose price is no more than it can be left out.
        _, worth = self.best_dearest(prices)
        return tuple([thing for thing in range(self.many) if prices[thing] > worth]), worth

    def reduced(self):
        """Return the same rule with all its numbers divided by what divides them all."""
        divisor = common_divisor([self.aside, *self.weights])
        return Weighted([weight // divisor for weight in self.weights], self.aside // divisor)
