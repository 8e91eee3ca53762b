"""The best lots for all aside weights."""

from dearestshelf.checks import check_many
from dearestshelf.lots import dearest_order
from dearestshelf.ratios import Ratio

MOST_RANGED_THINGS = 12


def aside_ranges(choice):
    """Return triples (low, high, lot): the lot is the best one for all aside weights between low and high.

    While the aside weight rises from 0, the greatest worth falls from the greatest price towards 0. The best lot
    is what is picked at this worth, and it changes only where the gains of two things, or a gain and 0, change
    places.
    """
    check_many(choice.rule.many, MOST_RANGED_THINGS)
    lows = []
    lots_found = []
    rates = _turning_rates(choice)
    for higher, lower in zip(rates, rates[1:]):
        lot = choice.pick((higher + lower).over(2))
        if len(lots_found) == 0 or lot != lots_found[-1]:
            lows.append(_aside_at(choice, higher))
            lots_found.append(lot)
    if len(lots_found) == 0:
        # No thing has a price above 0.
        return [(Ratio(0), None, ())]
    return list(zip(lows, [*lows[1:], None], lots_found))


def _turning_rates(choice):
    """Return the rates from the greatest price down to 0 at which the picked lot can change, each once."""
    prices = choice.prices
    greatest = max([int(price) for price in prices], default=0)
    rates = [Ratio(0)] + [Ratio(price) for price in prices] + _crossings(prices, choice.rule.weights)
    rates = [rate for rate in rates if rate >= 0 and rate <= greatest]
    falling = [rates[at] for at in dearest_order(rates)]
    return [rate for at, rate in enumerate(falling) if at == 0 or rate < falling[at - 1]]


def _crossings(prices, weights):
    """Return the rates at which two things of different weights have the same gain."""
    found = []
    for thing in range(len(prices)):
        for other in range(thing):
            slope = weights[thing] - weights[other]
            if slope != 0:
                found.append(Ratio(weights[thing] * prices[thing] - weights[other] * prices[other], slope))
    return found


def _aside_at(choice, rate):
    """Return the aside weight with which this rate, which is above 0, is the greatest worth."""
    gains = choice.gains(rate)
    return sum([gains[thing] for thing in choice.pick(rate)], start=Ratio(0)).over(rate)
