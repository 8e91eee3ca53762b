"""Rules of choice: the rule by which nobody takes anything, and buyers with lists of wishes."""

from dearestshelf.checks import check_lot, check_many, check_prices
from dearestshelf.errors import BadNumber, BadWish, NoBuyers
from dearestshelf.lots import dearest_order, first_things, lots
from dearestshelf.ratios import Ratio

MOST_THINGS = 24
MOST_TRIED_THINGS = 6


class Rule:
    """The rule by which nobody takes anything, and the base class of all other rules."""

    def __init__(self, many):
        check_many(many, MOST_THINGS)
        self.many = many

    def shares(self, lot):
        """Return the share of the buyers that takes each thing while the lot stands."""
        check_lot(lot, self.many)
        return [Ratio(0) for thing in range(self.many)]

    def away(self, lot):
        """Return the share of the buyers that goes away while the lot stands."""
        return 1 - sum(self.shares(lot), start=Ratio(0))

    def worth(self, lot, prices):
        """Return what one buyer brings on average while the lot stands."""
        check_prices(prices, self.many)
        shares = self.shares(lot)
        return sum([shares[thing] * prices[thing] for thing in lot], start=Ratio(0))

    def best(self, prices):
        """Return the lot with the greatest worth (the fewest things, the lowest number), and this worth."""
        check_many(self.many, MOST_TRIED_THINGS)
        check_prices(prices, self.many)
        best_lot = ()
        best_worth = Ratio(0)
        for lot in lots(self.many):
            worth = self.worth(lot, prices)
            if worth > best_worth or (worth == best_worth and len(lot) < len(best_lot)):
                best_lot = lot
                best_worth = worth
        return best_lot, best_worth

    def best_dearest(self, prices):
        """Return the least k for which the lot of the dearest k things has the greatest worth, and this worth."""
        check_prices(prices, self.many)
        order = dearest_order(prices)
        best_k = 0
        best_worth = Ratio(0)
        for k in range(1, self.many + 1):
            worth = self.worth(first_things(order, k), prices)
            if worth > best_worth:
                best_k = k
                best_worth = worth
        return best_k, best_worth


class Wish:
    """A buyer's list of wishes, the thing that the buyer wants most first."""

    def __init__(self, things):
        if not _can_be_wished(things):
            raise BadWish(None)
        self.things = tuple(things)

    def __call__(self, lot):
        """Return the first one of the things that is in the lot, or None."""
        return _first_wish(self.things, lot)


class Listed(Rule):
    """The rule of buyers with lists of wishes."""

    def __init__(self, many, wishes):
        super().__init__(many)
        if len(wishes) == 0:
            raise NoBuyers("there is no list of wishes")
        for number, (buyers, things) in enumerate(wishes):
            if buyers < 1:
                raise BadNumber("buyers", number)
            if not _can_be_wished(things) or any([thing >= many for thing in things]):
                raise BadWish(number)
        self.wishes = tuple([(buyers, tuple(things)) for buyers, things in wishes])

    def shares(self, lot):
        """Return the share of the buyers that takes each thing while the lot stands."""
        check_lot(lot, self.many)
        taken = [0] * self.many
        for buyers, things in self.wishes:
            thing = _first_wish(things, lot)
            if thing is not None:
                taken[thing] = taken[thing] + buyers
        everyone = sum([buyers for buyers, things in self.wishes])
        return [Ratio(count, everyone) for count in taken]


def _can_be_wished(things):
    """Tell whether the numbers are different ones from 0 on."""
    return len(set(things)) == len(things) and all([thing >= 0 for thing in things])


def _first_wish(things, lot):
    """Return the first one of the things that is in the lot, or None."""
    for thing in things:
        if thing in lot:
            return thing
    return None
