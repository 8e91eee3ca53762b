"""The best lot of things that need each other."""

from dearestshelf.choices import Choice
from dearestshelf.errors import BadNeed
from dearestshelf.ratios import Ratio


class Closed(Choice):
    """The question for the best lot in which no thing lacks another one that it needs."""

    def __init__(self, rule, prices, *, needs):
        super().__init__(rule, prices)
        things = range(rule.many)
        for number, (thing, needed) in enumerate(needs):
            if thing not in things or needed not in things or thing == needed:
                raise BadNeed(number)
        self.needs = tuple([(thing, needed) for thing, needed in needs])

    def allowed(self, lot):
        """Tell whether the lot is allowed."""
        return super().allowed(lot) and all([needed in lot for thing, needed in self.needs if thing in lot])

    def pick(self, rate):
        """Return the allowed lot with the greatest sum of gains all of whose things are in every other such lot."""
        rests, amounts = _settled(self.needs, self.gains(rate))
        # A gain that is left pays for its thing, for all that the thing needs, and for all that gave to these.
        reached = _steps_from_gains(self.needs, rests, amounts)
        return tuple([thing for thing in range(self.rule.many) if thing in reached])

    def transfers(self, rate):
        """Return for each need an amount, which its first thing gives to its second one."""
        _, amounts = _settled(self.needs, self.gains(rate))
        return amounts


def _settled(needs, gains):
    """Return the gains after all transfers, and the amount of each need.

    A thing with a gain above 0 gives to things with a gain below 0 that it needs, directly or through others,
    until nobody who has something left reaches anybody who lacks something. This is the greatest flow from the
    gains to the losses; always the shortest way is taken, so that the number of ways stays small.
    """
    rests = list(gains)
    amounts = [Ratio(0) for need in needs]
    steps = _steps_from_gains(needs, rests, amounts)
    lacking = [thing for thing in steps if rests[thing] < 0]
    while len(lacking) > 0:
        end = lacking[0]
        way = _way_to(end, steps)
        start = way[0][0]
        amount = _least([rests[start], -rests[end]] + [amounts[at] for thing, at in way if needs[at][1] == thing])
        rests[start] = rests[start] - amount
        rests[end] = rests[end] + amount
        for thing, at in way:
            amounts[at] = amounts[at] + amount if needs[at][0] == thing else amounts[at] - amount
        steps = _steps_from_gains(needs, rests, amounts)
        lacking = [thing for thing in steps if rests[thing] < 0]
    return rests, amounts


def _steps_from_gains(needs, rests, amounts):
    """Return how each thing is reached from the gains that are left, the things with the shortest ways first.

    The value of a reached thing is None if it has a gain itself, else a pair of the thing before it and the
    number of the need between the two. A need leads back, too, where an amount can be taken back.
    """
    steps = {thing: None for thing in range(len(rests)) if rests[thing] > 0}
    reached = list(steps)
    at = 0
    while at < len(reached):
        thing = reached[at]
        for number, (giver, taker) in enumerate(needs):
            if thing == giver and taker not in steps:
                steps[taker] = (thing, number)
                reached.append(taker)
            if thing == taker and giver not in steps and amounts[number] > 0:
                steps[giver] = (thing, number)
                reached.append(giver)
        at = at + 1
    return steps


def _way_to(end, steps):
    """Return the steps that lead to a thing, from the first one on."""
    way = []
    thing = end
    while steps[thing] is not None:
        way.append(steps[thing])
        thing = steps[thing][0]
    return way[::-1]


def _least(ratios):
    """Return the least one of some Ratios."""
    least = ratios[0]
    for ratio in ratios:
        if ratio < least:
            least = ratio
    return least
