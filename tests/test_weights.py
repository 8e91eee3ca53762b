import itertools
from fractions import Fraction

from dearestshelf import weights as module
from dearestshelf.errors import TooMany
from dearestshelf.lots import dearest
from dearestshelf.ratios import Ratio
from dearestshelf.rules import Rule
from dearestshelf.weights import Weighted
from tests.helper import ShelfTest, all_lots, fraction, written

LARGE = 10**18 - 1


class WeightedTest(ShelfTest):
    def test_interface(self):
        self.assert_interface(module, {"Weighted": "(weights, aside)"})
        signatures = {"shares": "(self, lot)", "best": "(self, prices)", "reduced": "(self)"}
        self.assert_interface(Weighted, signatures)
        self.assertTrue(issubclass(Weighted, Rule))

    def test_fields(self):
        rule = Weighted([2, 1, 3], 4)
        self.assertEqual((rule.many, rule.weights, rule.aside), (3, (2, 1, 3), 4))

    def test_shares_by_hand(self):
        rule = Weighted([2, 1, 3], 4)
        told = {
            (): [0, 0, 0],
            (0,): ["1/3", 0, 0],
            (1,): [0, "1/5", 0],
            (2,): [0, 0, "3/7"],
            (0, 1): ["2/7", "1/7", 0],
            (0, 2): ["2/9", 0, "1/3"],
            (1, 2): [0, "1/8", "3/8"],
            (0, 1, 2): ["1/5", "1/10", "3/10"],
        }
        for lot, shares in told.items():
            self.assert_shares(rule, lot, shares)
        self.assert_ratio(rule.away((0, 2)), 4, 9)
        self.assert_ratio(rule.worth((0, 1, 2), [10, 3, 6]), 41, 10)

    def test_example(self):
        rule = Weighted([2, 1, 3], 4)
        shares = rule.shares((0, 2))
        lot, worth = rule.best([10, 3, 6])
        self.assertEqual([*written(shares), lot, str(worth)], ["2/9", "0", "1/3", (0, 2), "38/9"])

    def test_few_things(self):
        self.assert_shares(Weighted([], 1), (), [])
        self.assert_best(Weighted([], 1), [], (), 0)
        self.assert_best_dearest(Weighted([], 1), [], 0, 0)
        self.assert_shares(Weighted([3], 1), (0,), ["3/4"])
        self.assert_best(Weighted([3], 1), [5], (0,), "15/4")
        self.assert_best(Weighted([3], 1), [0], (), 0)

    def test_checks_in_their_order(self):
        fields = {"many": 25, "most": 24}
        self.assert_raises(TooMany, fields, Weighted, [1] * 25, 1)
        self.assert_raises(TooMany, fields, Weighted, [0] * 25, 1)
        self.assert_raises(TooMany, fields, Weighted, [1] * 25, 0)
        for weight in (0, -1, -LARGE):
            self.assert_number("weights", 0, Weighted, [weight], 1)
            self.assert_number("weights", 2, Weighted, [1, 2, weight, 0], 1)
            self.assert_number("weights", 1, Weighted, [1, weight], 0)
            self.assert_number("aside", None, Weighted, [1, 1], weight)
            self.assert_number("aside", None, Weighted, [], weight)

    def test_wrong_lots_and_prices(self):
        for many in (0, 1, 3, 24):
            rule = Weighted([2] * many, 3)
            self.assert_wrong_lots(rule)
            self.assert_wrong_prices(rule, rule.best, rule.best_dearest)

    def test_a_list_that_was_passed_in_may_be_changed(self):
        weights = [2, 1, 3]
        rule = Weighted(weights, 4)
        self.assertEqual(weights, [2, 1, 3])
        weights[0] = 100
        weights.append(7)
        self.assertEqual((rule.many, rule.weights), (3, (2, 1, 3)))
        self.assert_shares(rule, (0, 2), ["2/9", 0, "1/3"])


class BestTest(ShelfTest):
    def test_best_of_all_lots(self):
        for weights, aside in [((1, 1, 1), 1), ((5, 1, 2), 3), ((1, 9, 2), 1), ((2, 3, 4), 30)]:
            rule = Weighted(list(weights), aside)
            for prices in itertools.product((0, 1, 3, 4, 12), repeat=3):
                self.assert_best_of_all_lots(rule, list(prices))
                self.assert_dearest(rule, list(prices))
        self.assert_best_of_all_lots(Weighted([3, 1, 4, 1, 5, 9], 2), [2, 7, 1, 8, 2, 8])
        self.assert_best_of_all_lots(Weighted([3, 1, 4, 1, 5, 9, 2], 6), [2, 7, 1, 8, 2, 8, 5])

    def assert_dearest(self, rule, prices):
        """Check that the best lot is one of the lots of the dearest things: those dearer than the worth."""
        lot, worth = rule.best(prices)
        self.assertIn(lot, [dearest(prices, k) for k in range(rule.many + 1)])
        self.assertEqual(lot, tuple(thing for thing in range(rule.many) if prices[thing] > fraction(worth)))
        self.assertEqual(fraction(rule.worth(lot, prices)), fraction(worth))

    def test_a_thing_whose_price_is_the_worth_is_left_out(self):
        # With thing 0 alone the worth is 5, and thing 1 at this price changes nothing.
        self.assert_best(Weighted([1, 7], 1), [10, 5], (0,), 5)
        self.assert_best(Weighted([7, 1], 1), [5, 10], (1,), 5)
        self.assert_best_dearest(Weighted([1, 7], 1), [10, 5], 1, 5)

    def test_equal_prices(self):
        self.assert_best(Weighted([1, 2, 3], 4), [5, 5, 5], (0, 1, 2), 3)
        self.assert_best(Weighted([1, 2, 3], 4), [0, 0, 0], (), 0)

    def test_most_things(self):
        rule = Weighted(list(range(1, 25)), 12)
        prices = [(thing * 7) % 24 + 5 for thing in range(24)]
        self.assert_dearest(rule, prices)
        ladder = [fraction(rule.worth(dearest(prices, k), prices)) for k in range(25)]
        self.assertEqual(fraction(rule.best(prices)[1]), max(ladder))
        self.assert_best_dearest(rule, prices, ladder.index(max(ladder)), max(ladder))

    def test_most_things_with_great_numbers(self):
        weights = [LARGE - thing * 31 for thing in range(24)]
        prices = [LARGE - (thing * 10**16) for thing in range(24)]
        self.assert_dearest(Weighted(weights, LARGE), prices)
        self.assert_best(Weighted([1] * 24, LARGE), [1] * 24, tuple(range(24)), Fraction(24, LARGE + 24))


class ReducedTest(ShelfTest):
    def assert_reduced(self, weights, aside, told_weights, told_aside):
        rule = Weighted(weights, aside)
        found = rule.reduced()
        self.assertIs(type(found), Weighted)
        self.assertEqual((found.weights, found.aside), (told_weights, told_aside))
        self.assertEqual((rule.weights, rule.aside), (tuple(weights), aside))
        for lot in all_lots(rule.many):
            self.assertEqual(written(found.shares(lot)), written(rule.shares(lot)))

    def test_with_a_common_factor(self):
        self.assert_reduced([6, 9, 3], 12, (2, 3, 1), 4)
        self.assert_reduced([LARGE, LARGE], LARGE, (1, 1), 1)
        self.assert_reduced([8], 8, (1,), 1)
        self.assert_reduced([], 5, (), 1)

    def test_without_a_common_factor(self):
        self.assert_reduced([6, 9, 3], 4, (6, 9, 3), 4)
        self.assert_reduced([4, 6], 9, (4, 6), 9)
        self.assert_reduced([5, 10], 1, (5, 10), 1)

    def test_worths_are_ratios(self):
        self.assertIs(type(Weighted([1], 1).worth((), [3])), Ratio)
        self.assertIs(type(Weighted([1], 1).away(())), Ratio)
