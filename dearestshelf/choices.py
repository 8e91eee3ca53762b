"""The best lot of a rule by weights under limits."""

from dearestshelf.checks import check_least, check_length, check_lot, check_prices
from dearestshelf.lots import dearest_order, first_things
from dearestshelf.ratios import Ratio


class Choice:
    """The question for the best lot, where every lot is allowed."""

    def __init__(self, rule, prices):
        check_prices(prices, rule.many)
        self.rule = rule
        self.prices = tuple(prices)

    def allowed(self, lot):
        """Tell whether the lot is allowed."""
        check_lot(lot, self.rule.many)
        return True

    def gains(self, rate):
        """Return for each thing its weight times what its price is above the rate."""
        return [(Ratio(price) - rate) * weight for price, weight in zip(self.prices, self.rule.weights)]

    def pick(self, rate):
        """Return the allowed lot with the greatest sum of gains."""
        gains = self.gains(rate)
        return tuple([thing for thing in range(self.rule.many) if gains[thing] > 0])

    def surplus(self, rate):
        """Return the greatest sum of gains of an allowed lot, minus the aside weight times the rate."""
        gains = self.gains(rate)
        return sum([gains[thing] for thing in self.pick(rate)], start=Ratio(0)) - rate * self.rule.aside

    def best(self):
        """Return the allowed lot with the greatest worth, and this worth."""
        pairs = list(self.climb())
        rate, lot = pairs[-1]
        return lot, rate

    def climb(self):
        """Yield rates that rise to the greatest worth, each with the lot to pick at it."""
        rate = Ratio(0)
        lot = self.pick(rate)
        worth = self.rule.worth(lot, self.prices)
        yield (rate, lot)
        # While the surplus at a rate is above 0, the lot picked there brings more than this rate.
        while worth > rate:
            rate = worth
            lot = self.pick(rate)
            worth = self.rule.worth(lot, self.prices)
            yield (rate, lot)


class AtMost(Choice):
    """The question for the best lot of at most so many things."""

    def __init__(self, rule, prices, *, most):
        Choice.__init__(self, rule, prices)
        check_least("most", most, 0)
        self.most = most

    def allowed(self, lot):
        """Tell whether the lot is allowed."""
        return super().allowed(lot) and len(lot) <= self.most

    def pick(self, rate):
        """Return the allowed lot with the greatest sum of gains: the first ones by falling gain."""
        picked = super().pick(rate)
        order = [thing for thing in dearest_order(self.gains(rate)) if thing in picked]
        return first_things(order, min(self.most, len(order)))


class OneEach(Choice):
    """The question for the best lot with at most one thing of each group."""

    def __init__(self, rule, prices, *, groups):
        Choice.__init__(self, rule, prices)
        check_length("groups", groups, rule.many)
        self.groups = tuple(groups)

    def allowed(self, lot):
        """Tell whether the lot is allowed."""
        return super().allowed(lot) and len(set([self.groups[thing] for thing in lot])) == len(lot)

    def pick(self, rate):
        """Return the allowed lot with the greatest sum of gains: of each group the thing with the greatest gain."""
        picked = super().pick(rate)
        gains = self.gains(rate)
        leader = {}
        for thing in picked:
            group = self.groups[thing]
            if group not in leader or gains[thing] > gains[leader[group]]:
                leader[group] = thing
        return tuple([thing for thing in picked if leader[self.groups[thing]] == thing])


class Limited(AtMost, OneEach):
    """The question for the best lot of at most so many things, at most one of each group."""

    def __init__(self, rule, prices, *, most, groups):
        # The groups are checked before the number of things, and each base class sets its own field alone.
        OneEach.__init__(self, rule, prices, groups=groups)
        AtMost.__init__(self, rule, prices, most=most)
