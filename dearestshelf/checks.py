"""The checks that several modules make of what they are passed."""

from dearestshelf.errors import BadLot, BadNumber, TooMany


def check_many(many, most):
    """Raise TooMany if there are more things than `most`."""
    if many > most:
        raise TooMany(many, most)


def check_prices(prices, many):
    """Raise BadNumber if the prices are not those of `many` things."""
    check_length("prices", prices, many)
    check_each("prices", prices, 0)


def check_length(what, items, many):
    """Raise BadNumber if there are not `many` items."""
    if len(items) != many:
        raise BadNumber(what, None)


def check_each(what, numbers, least):
    """Raise BadNumber if one of the numbers is below `least`."""
    for at, number in enumerate(numbers):
        if number < least:
            raise BadNumber(what, at)


def check_least(what, number, least):
    """Raise BadNumber if the number is below `least`."""
    if number < least:
        raise BadNumber(what, None)


def check_up_to(what, number, most):
    """Raise BadNumber if the number is not from 0 to `most`."""
    if number < 0 or number > most:
        raise BadNumber(what, None)


def check_aside(aside):
    """Raise BadNumber if the aside weight is below 1."""
    check_least("aside", aside, 1)


def check_lot(lot, many):
    """Raise BadLot if the tuple is not a lot of the things below `many`."""
    before = -1
    for thing in lot:
        if thing <= before or thing >= many:
            raise BadLot("this is not a lot of the things")
        before = thing
