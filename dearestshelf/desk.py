"""A shelf with named things that changes."""

from dearestshelf.checks import check_aside, check_least, check_many
from dearestshelf.choices import AtMost, Choice
from dearestshelf.errors import BadName, KnownName, NothingToUndo, UnknownName
from dearestshelf.ratios import Ratio
from dearestshelf.rules import MOST_THINGS
from dearestshelf.weights import Weighted

MOST_LETTERS = 12


class Desk:
    """A shelf with named things, which deeds change, and the lot of them that brings most.

    A deed never changes the dict of the things but takes a new one, so that `undo` can come back to the old one.
    """

    def __init__(self, aside):
        check_aside(aside)
        self._past = []
        self._take({}, aside, None)

    def put(self, name, price, weight):
        """Add a thing behind the others."""
        if not _is_name(name):
            raise BadName(name)
        if name in self._things:
            raise KnownName(name)
        check_least("price", price, 0)
        check_least("weight", weight, 1)
        check_many(len(self._things) + 1, MOST_THINGS)
        self._do({**self._things, name: (price, weight)}, self._aside, self._limit)

    def drop(self, name):
        """Remove a thing."""
        _thing(self._things, name)
        kept = {other: self._things[other] for other in self._things if other != name}
        self._do(kept, self._aside, self._limit)

    def set_price(self, name, price):
        """Change the price of a thing, which keeps its place."""
        self._do(_repriced(self._things, name, price), self._aside, self._limit)

    def set_weight(self, name, weight):
        """Change the weight of a thing, which keeps its place."""
        price, _ = _thing(self._things, name)
        check_least("weight", weight, 1)
        self._do({**self._things, name: (price, weight)}, self._aside, self._limit)

    def reprice(self, **prices):
        """Change several prices in one deed."""
        things = self._things
        for name, price in prices.items():
            things = _repriced(things, name, price)
        self._do(things, self._aside, self._limit)

    def set_aside(self, aside):
        """Change the aside weight."""
        check_aside(aside)
        self._do(self._things, aside, self._limit)

    def set_limit(self, limit):
        """Change how many things the best lot may hold; None means no limit."""
        if limit is not None:
            check_least("limit", limit, 0)
        self._do(self._things, self._aside, limit)

    def undo(self):
        """Take back the last deed that is not taken back yet."""
        if len(self._past) == 0:
            raise NothingToUndo("there is no deed to take back")
        things, aside, limit = self._past.pop()
        self._take(things, aside, limit)

    def weight_of(self, name):
        """Return the weight of a thing."""
        _, weight = _thing(self._things, name)
        return weight

    def __getitem__(self, name):
        price, _ = _thing(self._things, name)
        return price

    def __setitem__(self, name, price):
        self.set_price(name, price)

    def __contains__(self, name):
        return name in self._things

    def __len__(self):
        return len(self._things)

    def __iter__(self):
        return iter(self._things)

    @property
    def limit(self):
        """How many things the best lot may hold; None means no limit."""
        return self._limit

    @limit.setter
    def limit(self, value):
        self.set_limit(value)

    @property
    def aside_weight(self):
        """The present aside weight."""
        return self._aside

    @property
    def best_lot(self):
        """The names of the lot that brings most, in the order of the desk."""
        return list(self._best_names)

    @property
    def best_worth(self):
        """What the lot that brings most brings of each buyer."""
        # What a caller does with a Ratio has no effect here if it is a new one.
        return Ratio(self._worth_of_best.top, self._worth_of_best.bottom)

    def twin(self):
        """Return another desk in the same state, with no deed to undo."""
        other = Desk(self._aside)
        other._take(self._things, self._aside, self._limit)
        return other

    def follow(self, twin):
        """Come to the state of a twin by one deed, if any deeds were done there."""
        if len(twin._past) > 0:
            self._do(twin._things, twin._aside, twin._limit)

    def _do(self, things, aside, limit):
        """Take a new state, and keep the old one for undo."""
        self._past.append((self._things, self._aside, self._limit))
        self._take(things, aside, limit)

    def _take(self, things, aside, limit):
        """Take a state, and find its best lot."""
        self._things = things
        self._aside = aside
        self._limit = limit
        prices = [price for price, weight in things.values()]
        rule = Weighted([weight for price, weight in things.values()], aside)
        choice = Choice(rule, prices) if limit is None else AtMost(rule, prices, most=limit)
        lot, worth = choice.best()
        names = list(things)
        self._best_names = tuple([names[thing] for thing in lot])
        self._worth_of_best = worth


def _is_name(name):
    """Tell whether the string is a name: letters from a to z, neither none nor too many."""
    return name.isascii() and name.isalpha() and name.islower() and len(name) <= MOST_LETTERS


def _thing(things, name):
    """Return the price and the weight of a thing."""
    if name not in things:
        raise UnknownName(name)
    return things[name]


def _repriced(things, name, price):
    """Return the things with another price of one of them."""
    _, weight = _thing(things, name)
    check_least("price", price, 0)
    return {**things, name: (price, weight)}
