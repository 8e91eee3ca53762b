"""Lists of wishes behind a table of shares."""

from dearestshelf.checks import check_lot
from dearestshelf.errors import NotLists
from dearestshelf.lots import lots
from dearestshelf.ratios import Ratio, common_bottom
from dearestshelf.rules import Listed


def alternating(table, lot, thing):
    """Return the alternating sum of the shares of a thing of the lot, or for None of the shares that go away."""
    check_lot(lot, table.many)
    total = Ratio(0)
    for larger in lots(table.many):
        if all([other in larger for other in lot]):
            share = table.away(larger) if thing is None else table.shares(larger)[thing]
            more = len(larger) - len(lot)
            total = total + share if (more & 1) == 0 else total - share
    return total


def lists_of(table):
    """Return the rule of buyers with lists of wishes that has the same shares as the table.

    The alternating sum of a lot and a thing is the share of the buyers who wish for all things but the lot first,
    and then for this thing; that of a lot and None is the share of those who wish for all things but the lot, and
    for nothing else. So each list is a way that begins with the lot of all things and loses one thing in each
    step, until a step with None ends it.
    """
    sums = _checked_sums(table)
    everyone = common_bottom(list(sums.values()))
    buyers_left = {step: (sums[step] * everyone).top for step in sums}
    wishes = []
    way = _way_of_some(buyers_left, table.many)
    while len(way) > 0:
        # At least one step is left without buyers each time, so there are no more lists than steps: at most 256.
        buyers = min([int(buyers_left[step]) for step in way])
        for step in way:
            buyers_left[step] = buyers_left[step] - buyers
        wishes.append((buyers, tuple([thing for lot, thing in way if thing is not None])))
        way = _way_of_some(buyers_left, table.many)
    return Listed(table.many, wishes)


def _checked_sums(table):
    """Return the alternating sums by pairs (lot, thing) in their order; raise NotLists if one is below 0."""
    sums = {}
    for lot in lots(table.many):
        for thing in (None, *lot):
            amount = alternating(table, lot, thing)
            if amount < 0:
                raise NotLists(lot, thing, amount)
            sums[(lot, thing)] = amount
    return sums


def _way_of_some(buyers_left, many):
    """Return a way whose steps all have buyers left, as pairs (lot, thing); empty if no buyer is left."""
    way = []
    step = _step_of_some(buyers_left, tuple(range(many)))
    while step is not None:
        way.append(step)
        lot, thing = step
        rest = tuple([other for other in lot if other != thing])
        step = None if thing is None else _step_of_some(buyers_left, rest)
    return way


def _step_of_some(buyers_left, lot):
    """Return the first step (lot, thing) of a lot that has buyers left, or None."""
    for thing in (None, *lot):
        if buyers_left[(lot, thing)] > 0:
            return (lot, thing)
    return None
