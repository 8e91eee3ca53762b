"""Lots of things, their numbers, and orders of things."""

from dearestshelf.checks import check_up_to


def lots(many):
    """Yield all lots of the things below `many`, in ascending order of their numbers."""
    for number in range(1 << many):
        yield lot_at(number, many)


def orders(things):
    """Yield all orders of the things of a lot, in ascending order."""
    if len(things) == 0:
        yield ()
    for first in things:
        others = tuple([thing for thing in things if thing != first])
        for order in orders(others):
            yield (first, *order)


def lot_number(lot):
    """Return the sum of 2 to the power of each thing of the lot."""
    return sum([1 << thing for thing in lot])


def lot_at(number, many):
    """Return the lot of things below `many` that has this number."""
    return tuple([thing for thing in range(many) if (number >> thing) & 1 == 1])


def dearest_order(prices):
    """Return all things by falling price, of equal prices the lower thing first."""
    order = []
    for thing in range(len(prices)):
        at = len(order)
        while at > 0 and prices[order[at - 1]] < prices[thing]:
            at = at - 1
        order.insert(at, thing)
    return tuple(order)


def first_things(order, k):
    """Return the lot of the first k things of an order."""
    check_up_to("k", k, len(order))
    return tuple(sorted(order[:k], key=int))


def dearest(prices, k):
    """Return the lot of the k dearest things."""
    return first_things(dearest_order(prices), k)
