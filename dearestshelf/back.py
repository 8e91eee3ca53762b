"""Weights behind the proportions in which things were sold."""

from dearestshelf.checks import check_lot, check_many
from dearestshelf.errors import BadNumber, Crossed
from dearestshelf.ratios import Ratio, whole_proportion
from dearestshelf.rules import MOST_THINGS


def weights_back(many, rows):
    """Return the groups of things that rows connect, each a list of pairs (thing, weight); raise Crossed if none fit.

    The first row that leads to a thing gives it its weight. All other rows must agree with these weights.
    """
    check_many(many, MOST_THINGS)
    _check_rows(many, rows)
    placed = {}
    groups = []
    for lowest in range(many):
        if lowest not in placed:
            steps = _steps_from(lowest, rows)
            weights = _weights_along(steps, rows)
            _check_agreement(steps, weights, rows)
            things = [thing for thing in range(many) if thing in weights]
            numbers = whole_proportion([weights[thing] for thing in things])
            groups.append(list(zip(things, numbers)))
            placed.update(steps)
    return groups


def _check_rows(many, rows):
    """Raise an error if one of the rows is wrong."""
    for number, (lot, counts) in enumerate(rows):
        check_lot(lot, many)
        if len(counts) != len(lot) or any([count < 1 for count in counts]):
            raise BadNumber("counts", number)


def _steps_from(lowest, rows):
    """Return for each thing of a group the step to it: the number of a row and the thing before it in this row.

    The step to the first thing is None. A thing before another one stands before it in the dict, too.
    """
    steps = {lowest: None}
    reached = [lowest]
    at = 0
    while at < len(reached):
        thing = reached[at]
        for number, other in _neighbours(thing, rows):
            if other not in steps:
                steps[other] = (number, thing)
                reached.append(other)
        at = at + 1
    return steps


def _neighbours(thing, rows):
    """Return pairs (number of a row, thing) for all rows that hold the thing, and all things of these rows."""
    return [(number, other) for number, (lot, counts) in enumerate(rows) if thing in lot for other in lot]


def _weights_along(steps, rows):
    """Return the weight of each thing of a group, if the first thing has the weight 1."""
    weights = {}
    for thing in steps:
        if steps[thing] is None:
            weights[thing] = Ratio(1)
        else:
            number, before = steps[thing]
            weights[thing] = weights[before] * _proportion(rows[number], thing, before)
    return weights


def _proportion(row, thing, other):
    """Return the count of the thing over the count of the other one."""
    lot, counts = row
    return Ratio(counts[lot.index(thing)], counts[lot.index(other)])


def _check_agreement(steps, weights, rows):
    """Raise Crossed if a row of the group has two things in another proportion than their weights."""
    for number, row in enumerate(rows):
        lot, _ = row
        for thing in lot[1:]:
            first = lot[0]
            if first in weights and weights[first] * _proportion(row, thing, first) != weights[thing]:
                raise Crossed(_ring(number, first, thing, steps))


def _ring(number, first, thing, steps):
    """Return the ring that a row closes: from the first thing to the other one, and by the steps back again."""
    back = _way_down(thing, steps)
    forth = _way_down(first, steps)
    while len(back) > 0 and len(forth) > 0 and back[-1] == forth[-1]:
        back.pop()
        forth.pop()
    return ((number, first, thing), *back, *[(at, before, after) for at, after, before in forth[::-1]])


def _way_down(thing, steps):
    """Return the triples (row, thing, thing before it) that lead from a thing to the lowest one of its group."""
    way = []
    here = thing
    while steps[here] is not None:
        number, before = steps[here]
        way.append((number, here, before))
        here = before
    return way
