"""Mixtures of rules."""

from dearestshelf.errors import BadNumber, NoBuyers, Unlike
from dearestshelf.ratios import Ratio
from dearestshelf.rules import Rule


class Mixed(Rule):
    """A mixture of rules: so many buyers choose by this rule, so many by that one."""

    def __init__(self, *parts):
        if len(parts) == 0:
            raise NoBuyers("there is no part")
        _, first_rule = parts[0]
        super().__init__(first_rule.many)
        for number, (buyers, rule) in enumerate(parts):
            if buyers < 1:
                raise BadNumber("buyers", number)
            if rule.many != first_rule.many:
                raise Unlike(number)
        self.parts = parts

    def shares(self, lot):
        """Return the share of the buyers that takes each thing while the lot stands."""
        told = [(buyers, rule.shares(lot)) for buyers, rule in self.parts]
        return [_mean([(buyers, shares[thing]) for buyers, shares in told]) for thing in range(self.many)]

    def bound(self, prices):
        """Return what one buyer brought on average if each part had its best lot: no lot brings more."""
        return _mean([(buyers, rule.best(prices)[1]) for buyers, rule in self.parts])


def _mean(pairs):
    """Return the sum of buyers times fraction over all buyers, for pairs (buyers, fraction)."""
    total = sum([fraction * buyers for buyers, fraction in pairs], start=Ratio(0))
    return total.over(sum([buyers for buyers, fraction in pairs]))
