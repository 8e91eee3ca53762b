"""Rules by a told table."""

from dearestshelf.checks import check_lot, check_many
from dearestshelf.errors import BadTable
from dearestshelf.lots import lot_at, lot_number, lots
from dearestshelf.ratios import Ratio, common_divisor, whole_proportion
from dearestshelf.rules import Rule

MOST_TABLED_THINGS = 6


class Tabled(Rule):
    """A rule by a told table: row number r is for the lot with number r."""

    def __init__(self, many, rows):
        check_many(many, MOST_TABLED_THINGS)
        super().__init__(many)
        if len(rows) != (1 << many):
            raise BadTable(None)
        for number, row in enumerate(rows):
            if len(row) != many + 1 or not _fits(row, lot_at(number, many)):
                raise BadTable(number)
        self.rows = tuple([_reduced_row(row) for row in rows])

    @classmethod
    def of(cls, rule):
        """Return the table of all shares of a rule."""
        check_many(rule.many, MOST_TABLED_THINGS)
        return cls(rule.many, [whole_proportion([Ratio(1), *rule.shares(lot)]) for lot in lots(rule.many)])

    def __eq__(self, other):
        return isinstance(other, Tabled) and self.many == other.many and self.rows == other.rows

    def shares(self, lot):
        """Return the share of the buyers that takes each thing while the lot stands."""
        check_lot(lot, self.many)
        total, *counts = self.rows[lot_number(lot)]
        return [Ratio(count, total) for count in counts]


def _fits(row, lot):
    """Tell whether a row of the right length can be the row of this lot."""
    total, *counts = row
    for thing, count in enumerate(counts):
        if count < 0 or (count > 0 and thing not in lot):
            return False
    return total >= 1 and sum(counts) <= total


def _reduced_row(row):
    """Return the row divided by the greatest whole number that divides all its items."""
    divisor = common_divisor(row)
    return tuple([item // divisor for item in row])
