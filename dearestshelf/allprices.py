"""What the dearest things lose against the best lot, for all prices at once."""

from dearestshelf.checks import check_lot, check_many
from dearestshelf.games import solve_game
from dearestshelf.lots import first_things, lots, orders
from dearestshelf.ratios import Ratio, common_bottom

MOST_PRICED_THINGS = 4


def shortfall(rule, *, among=None):
    """Return what the dearest things lose at most, of the things of the lot `among` or of all things."""
    things = tuple(range(rule.many)) if among is None else among
    check_lot(things, rule.many)
    check_many(len(things), MOST_PRICED_THINGS)
    return Shortfall(rule, things)


def least_example(rule):
    """Return the Shortfall with a loss for the fewest things, of these the lot with the lowest number, or None."""
    check_many(rule.many, MOST_PRICED_THINGS)
    for size in range(rule.many + 1):
        for among in lots(rule.many):
            if len(among) == size:
                found = Shortfall(rule, among)
                if found.loss > 0:
                    return found
    return None


class Shortfall:
    """The greatest loss of the dearest ones of some things, and prices at which they lose so much.

    All prices that fit an order are mixtures of steps: in step j the first j things have the price 1, and the
    others 0. So the loss with one lot is the value of a game. One player names a step, the other one a number k,
    and paid is what the lot brings more in this step than the first k things.
    """

    def __init__(self, rule, among):
        self.among = among
        self.loss = Ratio(0)
        self.order = None
        self.lot = None
        self.prices = None
        shares = {lot: rule.shares(lot) for lot in _lots_of(among)}
        # All shares times this number are whole, as the numbers of a game must be.
        self._total = common_bottom([share for lot in shares for share in shares[lot]])
        self._counts = {lot: [(share * self._total).top for share in shares[lot]] for lot in shares}
        for order in orders(among):
            for lot in _lots_of(among):
                value, step_mix, _ = self._game(order, lot)
                if value > self.loss * self._total:
                    self.loss = value.over(self._total)
                    self.order = order
                    self.lot = lot
                    self.prices = _prices_of(step_mix, order, rule.many)

    def mix(self, order, lot):
        """Return a mix of the first k things that the lot beats by at most the loss, at all prices that fit."""
        _, _, lot_mix = self._game(order, lot)
        return lot_mix

    def _game(self, order, lot):
        """Return the value of the game, a mix of its steps, and a mix of its numbers k."""
        brought = self._brought(order, lot)
        by_dearest = [self._brought(order, first_things(order, k)) for k in range(len(order) + 1)]
        return solve_game([[brought[step] - other[step] for other in by_dearest] for step in range(len(brought))])

    def _brought(self, order, lot):
        """Return what the lot brings in each step, times the common number."""
        counts = self._counts[lot]
        return [sum([counts[thing] for thing in order[:step]]) for step in range(len(order) + 1)]


def _lots_of(things):
    """Return all lots of these things, in ascending order of their numbers."""
    return [tuple([things[at] for at in places]) for places in lots(len(things))]


def _prices_of(step_mix, order, many):
    """Return the prices of all things in a mixture of steps, 0 for things that are not in the order."""
    prices = [Ratio(0) for thing in range(many)]
    for at, thing in enumerate(order):
        prices[thing] = sum(step_mix[at + 1 :], start=Ratio(0))
    return tuple(prices)
