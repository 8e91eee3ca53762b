"""The checks that several modules make of what they are passed."""

from dearestshelf.errors import BadLot, BadNumber, TooMany


def check_many(many, most):
    """Raise TooMany if there are more things than `most`."""
    if many > most:
        raise TooMany(many, most)


def check_prices(prices, many):
    """Raise BadNumber if the prices are not those of `many` things."""
    check_length("prices", prices, many)
    for thing, price in enumerate(prices):
        if price < 0:
            raise BadNumber("prices", thing)


def check_length(what, items, many):
    """Raise BadNumber if there are not `many` items."""
    if len(items) != many:
        raise BadNumber(what, None)


def check_from_one(what, numbers):
    """Raise BadNumber if one of the numbers is below 1."""
    for at, number in enumerate(numbers):
        if number < 1:
            raise BadNumber(what, at)


def check_aside(aside):
    """Raise BadNumber if the aside weight is below 1."""
    if aside < 1:
        raise BadNumber("aside", None)


def check_lot(lot, many):
    """Raise BadLot if the tuple is not a lot of the things below `many`."""
    before = -1
    for thing in lot:
        if thing <= before or thing >= many:
            raise BadLot("this is not a lot of the things")
        before = thing
