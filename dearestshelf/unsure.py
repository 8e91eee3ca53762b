"""Weights that are known only between bounds."""

from dearestshelf.checks import check_length, check_lot, check_many, check_prices
from dearestshelf.errors import BadNumber
from dearestshelf.lots import dearest_order, lots
from dearestshelf.ratios import Ratio
from dearestshelf.rules import MOST_THINGS
from dearestshelf.weights import Weighted

MOST_COMPARED_THINGS = 8


class Unsure:
    """Buyers by weights, each of which lies between a low and a high."""

    def __init__(self, lows, highs, *, aside):
        check_many(len(lows), MOST_THINGS)
        check_length("highs", highs, len(lows))
        for thing, (low, high) in enumerate(zip(lows, highs)):
            if low < 1:
                raise BadNumber("lows", thing)
            if high < low:
                raise BadNumber("highs", thing)
        _check_bounds_of_aside(aside)
        self.many = len(lows)
        self.lows = tuple(lows)
        self.highs = tuple(highs)
        self.aside = tuple(aside)

    def least(self, lot, prices):
        """Return the least worth of the lot, and weights and an aside weight with which it has this worth."""
        self._check(lot, prices)
        return self._turned(lot, prices, self.lows, self.highs, self.aside[1])

    def greatest(self, lot, prices):
        """Return the greatest worth of the lot, and weights and an aside weight with which it has this worth."""
        self._check(lot, prices)
        return self._turned(lot, prices, self.highs, self.lows, self.aside[0])

    def best(self, prices):
        """Return the lot with the greatest least worth and the fewest things, and that worth."""
        # All things of this lot are dearer than its worth, and so they have their lows where it is least; where
        # all things have their lows, no other lot brings more, and so none has a greater least worth.
        return Weighted(self.lows, self.aside[1]).best(prices)

    def never_less(self, first, second, prices):
        """Return None if the first lot never brings less, else weights and an aside weight for which it does."""
        self._check(first, prices)
        check_lot(second, self.many)
        things = [thing for thing in range(self.many) if thing in first or thing in second]
        check_many(len(things), MOST_COMPARED_THINGS)
        # What is between the worths, times both totals, is linear in each single weight and in the aside weight,
        # so that it is below 0 somewhere within the bounds only if it is so where all of them are at their ends.
        for aside in self.aside:
            for raised in lots(len(things)):
                weights = list(self.lows)
                for at in raised:
                    weights[things[at]] = self.highs[things[at]]
                if _worth(first, prices, weights, aside) < _worth(second, prices, weights, aside):
                    return weights, aside
        return None

    def _check(self, lot, prices):
        """Raise BadNumber if the prices are wrong, and BadLot if the lot is."""
        check_prices(prices, self.many)
        check_lot(lot, self.many)

    def _turned(self, lot, prices, dear, cheap, aside):
        """Return the worth with the dear weights for things that cost at least so much, else with the cheap ones.

        The worth moves in one direction only, and never above the price of a thing that was turned to its dear
        weight, so that each thing is turned at most once, the dearest one first.
        """
        weights = list(self.lows)
        for thing in lot:
            weights[thing] = cheap[thing]
        worth = _worth(lot, prices, weights, aside)
        for thing in dearest_order(prices):
            if thing in lot and worth <= prices[thing]:
                weights[thing] = dear[thing]
                worth = _worth(lot, prices, weights, aside)
        return worth, weights, aside


def _check_bounds_of_aside(aside):
    """Raise BadNumber if the pair does not hold the bounds of an aside weight."""
    low, high = aside
    if low < 1:
        raise BadNumber("aside", 0)
    if high < low:
        raise BadNumber("aside", 1)


def _worth(lot, prices, weights, aside):
    """Return what one buyer by these weights brings on average while the lot stands."""
    brought = sum([weights[thing] * prices[thing] for thing in lot])
    return Ratio(brought, aside + sum([weights[thing] for thing in lot]))
