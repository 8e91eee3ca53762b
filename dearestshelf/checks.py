"""The checks that several modules make of what they are passed."""

from dearestshelf.errors import BadLot, BadNumber, TooMany


def check_many(many, most):
    """Raise TooMany if there are more things than `most`."""
    if many > most:
        raise TooMany(many, most)


def check_prices(prices, many):
    """Raise BadNumber if the prices are not those of `many` things."""
    if len(prices) != many:
        raise BadNumber("prices", None)
    for thing, price in enumerate(prices):
        if price < 0:
            raise BadNumber("prices", thing)


def check_lot(lot, many):
    """Raise BadLot if the tuple is not a lot of the things below `many`."""
    before = -1
    for thing in lot:
        if thing <= before or thing >= many:
            raise BadLot("this is not a lot of the things")
        before = thing
