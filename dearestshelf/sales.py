"""Records of what was sold while which lot stood."""

from dearestshelf.checks import check_each, check_least, check_length, check_lot, check_many
from dearestshelf.errors import Unlike
from dearestshelf.rules import MOST_THINGS


class SalesBook:
    """A book with records of sales, in the order in which they were entered."""

    def __init__(self, many, records=()):
        check_many(many, MOST_THINGS)
        self.many = many
        self._records = tuple([_checked(many, lot, sold, gone) for lot, sold, gone in records])

    def enter(self, lot, sold, gone):
        """Add a record: while the lot stood, so many buyers took each of its things, and so many went away."""
        # The records are a new tuple each time, so that a loop over the book goes on over those that it began with.
        self._records = (*self._records, _checked(self.many, lot, sold, gone))

    def sold_of(self, thing):
        """Return how many buyers took the thing in all records together."""
        return sum([sold[lot.index(thing)] for lot, sold, gone in self._records if thing in lot])

    def __iadd__(self, other):
        lot, sold, gone = other
        self.enter(lot, sold, gone)
        return self

    def __add__(self, other):
        if self.many != other.many:
            raise Unlike(None)
        return SalesBook(self.many, self._records + other._records)

    def __len__(self):
        return len(self._records)

    def __iter__(self):
        return iter(self._records)


def _checked(many, lot, sold, gone):
    """Return the record as a tuple after all checks of it."""
    check_lot(lot, many)
    check_length("sold", sold, len(lot))
    check_each("sold", sold, 0)
    check_least("gone", gone, 0)
    return (lot, tuple(sold), gone)
