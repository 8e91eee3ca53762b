import itertools
import random
from fractions import Fraction

from dearestshelf import season as module
from dearestshelf.season import Season
from dearestshelf.weights import Weighted
from tests.helper import ShelfTest, all_lots, fraction, wrong_prices

LARGE = 10**18 - 1
RULE = Weighted([2, 1, 3], 4)


def told_rate(rule, prices, margin):
    """Return the greatest sum of share times (price minus margin), lot by lot."""
    sums = []
    for lot in all_lots(rule.many):
        total = rule.aside + sum(rule.weights[thing] for thing in lot)
        sums.append(sum(Fraction(rule.weights[thing], total) * (prices[thing] - margin) for thing in lot))
    return Fraction(max(sums))


def told_season(rule, prices, seats, buyers):
    """Return the worths and the bars of a season by the words of its definition."""
    worths, bars = {}, {}
    for b, s in itertools.product(range(buyers + 1), range(seats + 1)):
        if s == 0 or b == 0:
            worths[s, b], bars[s, b] = Fraction(0), None
        else:
            margin = worths[s, b - 1] - worths[s - 1, b - 1]
            rate = told_rate(rule, prices, margin)
            worths[s, b], bars[s, b] = worths[s, b - 1] + rate, margin + rate
    return worths, bars


class SeasonTest(ShelfTest):
    def bars(self, season):
        """Return all bars that there are, after a look at the lots shown and at how the bars rise and fall."""
        bars = {}
        for s, b in itertools.product(range(season.seats + 1), range(season.buyers + 1)):
            bar, lot = season.bar(s, b), season.lot_to_show(s, b)
            self.assertIs(type(lot), tuple)
            if s == 0 or b == 0:
                self.assertEqual((bar, lot, fraction(season.worth(s, b))), (None, (), 0))
            else:
                bars[s, b] = fraction(bar)
                dearer = tuple(thing for thing, price in enumerate(season.prices) if price > bars[s, b])
                self.assertEqual(lot, dearer)
        for s, b in bars:
            self.assertLessEqual(bars.get((s + 1, b), 0), bars[s, b])
            self.assertLessEqual(bars.get((s, b - 1), 0), bars[s, b])
        return bars

    def assert_season(self, rule, prices, seats, buyers):
        kept = list(prices)
        season = Season(rule, prices, seats=seats, buyers=buyers)
        worths, told_bars = told_season(rule, prices, seats, buyers)
        bars = self.bars(season)
        self.assertEqual(bars, {at: bar for at, bar in told_bars.items() if bar is not None})
        for (s, b), worth in worths.items():
            self.assertEqual(fraction(season.worth(s, b)), worth)
            lot, bar = season.lot_to_show(s, b), told_bars[s, b]
            if bar is not None:
                # The lot that is shown brings just the greatest rate.
                margin = worths[s, b - 1] - worths[s - 1, b - 1]
                shares = [fraction(share) for share in rule.shares(lot)]
                self.assertEqual(sum(shares[thing] * (prices[thing] - margin) for thing in lot), bar - margin)
        self.assertEqual(prices, kept)


class InterfaceTest(SeasonTest):
    def test_interface(self):
        self.assert_interface(module, {"Season": "(rule, prices, *, seats, buyers)"})
        signatures = {name: "(self, s, b)" for name in ("worth", "bar", "lot_to_show")}
        self.assert_interface(Season, signatures)

    def test_fields(self):
        season = Season(RULE, [10, 3, 6], seats=2, buyers=12)
        self.assertIs(season.rule, RULE)
        self.assertEqual((season.prices, season.seats, season.buyers), ((10, 3, 6), 2, 12))
        self.assertIs(type(season.prices), tuple)

    def test_example(self):
        season = Season(Weighted([1], 1), [6], seats=1, buyers=2)
        found = [str(season.worth(1, 2)), str(season.bar(1, 2)), season.lot_to_show(1, 2)]
        self.assertEqual(found, ["9/2", "9/2", (0,)])

    def test_by_hand(self):
        season = Season(Weighted([1, 2], 1), [12, 4], seats=1, buyers=2)
        self.assert_ratio(season.worth(1, 1), 6)
        self.assert_ratio(season.bar(1, 1), 6)
        self.assertEqual(season.lot_to_show(1, 1), (0,))
        # The margin is 6, and half of the buyers take thing 0 for 6 more.
        self.assert_ratio(season.worth(1, 2), 9)
        self.assert_ratio(season.bar(1, 2), 9)

    def test_what_was_passed_in_or_returned_may_be_changed(self):
        prices = [10, 3, 6]
        season = Season(RULE, prices, seats=2, buyers=2)
        told = str(season.worth(2, 2)), str(season.bar(2, 2)), season.lot_to_show(2, 2)
        prices[0] = 0
        prices.append(1)
        for s, b in itertools.product((0, 1, 2), (0, 1, 2)):
            season.worth(s, b).top = 77
            if s * b > 0:
                season.bar(s, b).top = 77
        self.assertEqual(season.prices, (10, 3, 6))
        self.assertEqual((str(season.worth(2, 2)), str(season.bar(2, 2)), season.lot_to_show(2, 2)), told)
        self.assert_ratio(season.worth(0, 1), 0)


class ChecksTest(SeasonTest):
    def test_prices(self):
        for many in (0, 1, 3, 24):
            rule = Weighted([1] * many, 1)
            for prices, at in wrong_prices(many):
                for seats, buyers in [(1, 1), (-1, 1), (1, 13), (13, -1)]:
                    self.assert_number("prices", at, Season, rule, prices, seats=seats, buyers=buyers)

    def test_seats_and_buyers(self):
        for wrong in (-1, 13, LARGE, -LARGE):
            self.assert_number("seats", None, Season, RULE, [1, 1, 1], seats=wrong, buyers=1)
            self.assert_number("seats", None, Season, RULE, [1, 1, 1], seats=wrong, buyers=13)
            self.assert_number("seats", None, Season, RULE, [1, 1, 1], seats=wrong, buyers=-1)
            self.assert_number("buyers", None, Season, RULE, [1, 1, 1], seats=12, buyers=wrong)
            self.assert_number("buyers", None, Season, RULE, [1, 1, 1], seats=0, buyers=wrong)

    def test_questions(self):
        for seats, buyers in [(0, 0), (2, 3), (12, 1), (1, 12), (12, 12)]:
            season = Season(RULE, [10, 3, 6], seats=seats, buyers=buyers)
            for method in (season.worth, season.bar, season.lot_to_show):
                for s in (-1, seats + 1, 13, LARGE, -LARGE):
                    for b in (0, buyers, -1, buyers + 1):
                        self.assert_number("seats", None, method, s, b)
                for b in (-1, buyers + 1, 13, LARGE, -LARGE):
                    for s in (0, seats):
                        self.assert_number("buyers", None, method, s, b)


class SomeSeasonsTest(SeasonTest):
    def test_few_things(self):
        for seats, buyers in itertools.product((0, 1, 2, 12), repeat=2):
            self.assert_season(Weighted([], 3), [], seats, buyers)
            self.assert_season(Weighted([2], 3), [7], seats, buyers)
            self.assert_season(Weighted([2], 3), [0], seats, buyers)

    def test_small_seasons(self):
        rules = [RULE, Weighted([1, 1, 1], 1), Weighted([9, 1, 1], 2)]
        all_prices = [[10, 3, 6], [5, 5, 5], [0, 0, 0], [LARGE, 1, 2], [0, 0, 4], [4, 8, 8]]
        for rule, prices in itertools.product(rules, all_prices):
            self.assert_season(rule, prices, 4, 6)
        self.assert_season(RULE, [10, 3, 6], 12, 3)
        self.assert_season(RULE, [10, 3, 6], 3, 12)
        self.assert_season(RULE, [10, 3, 6], 12, 12)

    def test_seasons_by_chance(self):
        told = random.Random(26)
        for _ in range(25):
            many = told.randint(2, 5)
            rule = Weighted([told.randint(1, 6) for _ in range(many)], told.randint(1, 9))
            prices = [told.randint(0, 12) for _ in range(many)]
            self.assert_season(rule, prices, told.randint(1, 4), told.randint(1, 5))

    def test_a_price_that_equals_the_bar_is_not_shown(self):
        # With thing 0 alone the only buyer brings 5.
        season = Season(Weighted([1, 7], 1), [10, 5], seats=1, buyers=1)
        self.assert_ratio(season.bar(1, 1), 5)
        self.assertEqual(season.lot_to_show(1, 1), (0,))

    def test_most_things_seats_and_buyers(self):
        rule = Weighted([LARGE - 31 * thing for thing in range(24)], LARGE)
        prices = [LARGE - thing * 10**16 for thing in range(24)]
        season = Season(rule, prices, seats=12, buyers=12)
        self.bars(season)
        for b in range(13):
            # With a seat for each buyer all buyers bring the greatest worth.
            _, worth = rule.best(prices)
            self.assertEqual(fraction(season.worth(12, b)), b * fraction(worth))
        self.assertLess(fraction(season.worth(6, 12)), fraction(season.worth(7, 12)))
