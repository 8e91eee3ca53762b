"""Buyers who come one after another, while seats are left."""

from dearestshelf.checks import check_prices, check_up_to
from dearestshelf.lots import dearest_order
from dearestshelf.ratios import Ratio

MOST_SEATS = 12
MOST_BUYERS = 12


class Season:
    """A shop whose things all use one stock of seats, and which shows a lot to each buyer of a Weighted rule."""

    def __init__(self, rule, prices, *, seats, buyers):
        check_prices(prices, rule.many)
        check_up_to("seats", seats, MOST_SEATS)
        check_up_to("buyers", buyers, MOST_BUYERS)
        self.rule = rule
        self.prices = tuple(prices)
        self.seats = seats
        self.buyers = buyers
        # Row number b holds the worths with b buyers to come, item number s of it the one with s seats.
        self._worths = [[Ratio(0)] * (seats + 1)]
        for _ in range(buyers):
            self._worths.append(_worths_before(self._worths[-1], rule, self.prices))

    def worth(self, s, b):
        """Return the most that the shop can bring on average with s seats left and b buyers to come."""
        self._check(s, b)
        found = self._worths[b][s]
        # What a caller does with a Ratio has no effect here if it is a new one.
        return Ratio(found.top, found.bottom)

    def bar(self, s, b):
        """Return the price that a thing must exceed to be shown, or None if nothing can be sold."""
        self._check(s, b)
        if s == 0 or b == 0:
            return None
        return self._worths[b][s] - self._worths[b - 1][s - 1]

    def lot_to_show(self, s, b):
        """Return the lot of all things whose price is greater than the bar."""
        bar = self.bar(s, b)
        if bar is None:
            return ()
        return tuple([thing for thing in range(self.rule.many) if self.prices[thing] > bar])

    def _check(self, s, b):
        """Raise BadNumber if the season never has s seats left, or never b buyers to come."""
        check_up_to("seats", s, self.seats)
        check_up_to("buyers", b, self.buyers)


def _worths_before(worths, rule, prices):
    """Return the worths for all numbers of seats with one buyer more to come.

    A buyer who goes away leaves the shop the worth of the same seats, and one who takes a thing leaves it the price
    and the worth of one seat less. So the buyer adds to the latter the bar: the greatest mean of prices and, for
    going away, of the margin between the two.
    """
    before = [Ratio(0)]
    for fewer, same in zip(worths, worths[1:]):
        before.append(fewer + _bar(same - fewer, rule, prices))
    return before


def _bar(margin, rule, prices):
    """Return what a buyer brings with the best lot, if one who goes away brings the margin."""
    bar = margin
    brought = margin * rule.aside
    total = rule.aside
    for thing in dearest_order(prices):
        # A thing raises the mean just if its price is greater.
        if prices[thing] > bar:
            brought = brought + rule.weights[thing] * prices[thing]
            total = total + rule.weights[thing]
            bar = brought.over(total)
    return bar
