"""What a book of sales tells of a rule of choice."""

from dearestshelf.checks import check_up_to
from dearestshelf.errors import Unlike, Unsold
from dearestshelf.ratios import Ratio, whole_proportion
from dearestshelf.weights import Weighted

MOST_ROUNDS = 2


def likelihood(rule, book):
    """Return the chance that buyers by this rule, one after another, choose just as the book records it."""
    _check_alike(rule, book)
    chance = Ratio(1)
    for lot, sold, gone in book:
        shares = rule.shares(lot)
        chance = chance * _power(rule.away(lot), gone)
        for thing, count in zip(lot, sold):
            chance = chance * _power(shares[thing], count)
    return chance


def expected(rule, book):
    """Return for each thing how many of the buyers of the book take it on average by this rule."""
    _check_alike(rule, book)
    numbers = [Ratio(0) for thing in range(rule.many)]
    for lot, sold, gone in book:
        shares = rule.shares(lot)
        numbers = [number + share * (sum(sold) + gone) for number, share in zip(numbers, shares)]
    return numbers


def learned(rule, book, *, rounds=1):
    """Return the Weighted rule after so many rounds of fitting its weights to the book."""
    _check_alike(rule, book)
    check_up_to("rounds", rounds, MOST_ROUNDS)
    stood = [thing for thing in range(rule.many) if any([thing in lot for lot, sold, gone in book])]
    for thing in stood:
        if book.sold_of(thing) == 0:
            raise Unsold(thing)
    weights = [Ratio(weight) for weight in rule.weights]
    for _ in range(rounds):
        rates = _rates(weights, rule.aside, book)
        weights = [
            Ratio(book.sold_of(thing)).over(rates[thing]) if thing in stood else weight
            for thing, weight in enumerate(weights)
        ]
    *whole_weights, aside = whole_proportion([*weights, Ratio(rule.aside)])
    return Weighted(whole_weights, aside)


def _check_alike(rule, book):
    """Raise Unlike if the rule and the book differ in their number of things."""
    if rule.many != book.many:
        raise Unlike(None)


def _rates(weights, aside, book):
    """Return for each thing what is expected to be sold of it for a weight of 1, by the totals of these weights."""
    rates = [Ratio(0) for weight in weights]
    for lot, sold, gone in book:
        total = sum([weights[thing] for thing in lot], start=Ratio(aside))
        rate = Ratio(sum(sold) + gone).over(total)
        for thing in lot:
            rates[thing] = rates[thing] + rate
    return rates


def _power(share, count):
    """Return the share to the power of the count."""
    power = Ratio(1)
    for _ in range(count):
        power = power * share
    return power
