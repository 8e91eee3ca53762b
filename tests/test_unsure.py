import itertools
import random
from fractions import Fraction

from dearestshelf import unsure as module
from dearestshelf.errors import BadLot, TooMany
from dearestshelf.unsure import Unsure
from dearestshelf.weights import Weighted
from tests.helper import ShelfTest, all_lots, fraction, told_worth, wrong_lots, wrong_prices

LARGE = 10**18 - 1
MIXED = Unsure([2, 1, 3], [2, 4, 9], aside=(2, 5))


def all_ends(unsure):
    """Return all weights at their ends, each with each end of the aside weight."""
    weights = itertools.product(*zip(unsure.lows, unsure.highs))
    return list(itertools.product(weights, unsure.aside))


def told_end(lot, prices, weights, aside):
    total = aside + sum(weights[thing] for thing in lot)
    return Fraction(sum(weights[thing] * prices[thing] for thing in lot), total)


class UnsureTest(ShelfTest):
    def assert_bound(self, unsure, lot, prices, told, dear, cheap, aside):
        """Check a least or greatest worth, and the weights that point 27 names for it."""
        worth, weights, found_aside = told
        self.assertIs(type(told), tuple)
        self.assertIs(type(weights), list)
        named = list(unsure.lows)
        for thing in lot:
            named[thing] = dear[thing] if prices[thing] >= fraction(worth) else cheap[thing]
        self.assertEqual((weights, found_aside), (named, aside))
        self.assertEqual(told_end(lot, prices, weights, found_aside), fraction(worth))

    def assert_bounds(self, unsure, lot, prices):
        """Check `least` and `greatest` against all weights at their ends."""
        worths = [told_end(lot, prices, weights, aside) for weights, aside in all_ends(unsure)]
        kept = list(prices)
        least, greatest = unsure.least(lot, prices), unsure.greatest(lot, prices)
        self.assert_bound(unsure, lot, prices, least, unsure.lows, unsure.highs, unsure.aside[1])
        self.assert_bound(unsure, lot, prices, greatest, unsure.highs, unsure.lows, unsure.aside[0])
        self.assertEqual((fraction(least[0]), fraction(greatest[0])), (min(worths), max(worths)))
        self.assertEqual(prices, kept)

    def assert_best_of_all(self, unsure, prices):
        """Check `best` against the least worth of each lot."""
        kept = list(prices)
        found = unsure.best(prices)
        self.assertIs(type(found), tuple)
        lot, worth = found
        self.assertIs(type(lot), tuple)
        ends = all_ends(unsure)
        worths = {told: min(told_end(told, prices, *end) for end in ends) for told in all_lots(unsure.many)}
        self.assertEqual((worths[lot], fraction(worth)), (max(worths.values()), max(worths.values())))
        for other, least in worths.items():
            if least == worths[lot]:
                self.assertLessEqual(set(lot), set(other))
        self.assertEqual(prices, kept)

    def assert_comparison(self, unsure, first, second, prices):
        """Check `never_less` against all weights at their ends; tell whether the first lot never brings less."""
        kept = list(prices)
        found = unsure.never_less(first, second, prices)
        gaps = [told_end(first, prices, *end) - told_end(second, prices, *end) for end in all_ends(unsure)]
        if min(gaps) >= 0:
            self.assertIsNone(found)
        else:
            self.assert_less(unsure, first, second, prices, found)
        self.assertEqual(prices, kept)
        return found is None

    def assert_less(self, unsure, first, second, prices, found):
        self.assertIs(type(found), tuple)
        weights, aside = found
        self.assertIs(type(weights), list)
        self.assertEqual(len(weights), unsure.many)
        for weight, ends in zip(weights, zip(unsure.lows, unsure.highs)):
            self.assertIn(weight, ends)
        self.assertIn(aside, unsure.aside)
        rule = Weighted(weights, aside)
        self.assertLess(told_worth(rule, first, prices), told_worth(rule, second, prices))


class InterfaceTest(UnsureTest):
    def test_interface(self):
        self.assert_interface(module, {"Unsure": "(lows, highs, *, aside)"})
        signatures = {
            "least": "(self, lot, prices)",
            "greatest": "(self, lot, prices)",
            "best": "(self, prices)",
            "never_less": "(self, first, second, prices)",
        }
        self.assert_interface(Unsure, signatures)

    def test_fields(self):
        self.assertEqual((MIXED.many, MIXED.lows, MIXED.highs, MIXED.aside), (3, (2, 1, 3), (2, 4, 9), (2, 5)))
        for field in (MIXED.lows, MIXED.highs, MIXED.aside):
            self.assertIs(type(field), tuple)
        empty = Unsure([], [], aside=(1, 1))
        self.assertEqual((empty.many, empty.lows, empty.highs, empty.aside), (0, (), (), (1, 1)))

    def test_example(self):
        worth, weights, aside = Unsure([1, 1], [1, 5], aside=(1, 1)).least((0, 1), [9, 1])
        self.assertEqual([str(worth), weights, aside], ["2", [1, 5], 1])

    def test_what_was_passed_in_or_returned_may_be_changed(self):
        lows, highs, aside = [1, 1], [1, 5], (1, 1)
        unsure = Unsure(lows, highs, aside=aside)
        self.assertEqual((lows, highs), ([1, 1], [1, 5]))
        lows[0] = 9
        highs.clear()
        worth, weights, _ = unsure.least((0, 1), [9, 1])
        worth.top = 50
        weights.clear()
        unsure.greatest((0,), [9, 1])[1].clear()
        unsure.never_less((), (0,), [9, 1])[0].clear()
        self.assertEqual((unsure.lows, unsure.highs), ((1, 1), (1, 5)))
        worth, weights, aside = unsure.least((0, 1), [9, 1])
        self.assertEqual([str(worth), weights, aside], ["2", [1, 5], 1])


class ChecksTest(UnsureTest):
    def test_too_many(self):
        for highs, aside in [([2] * 25, (1, 1)), ([0] * 25, (1, 1)), ([2], (1, 1)), ([2] * 25, (0, 1))]:
            self.assert_raises(TooMany, {"many": 25, "most": 24}, Unsure, [1] * 25, highs, aside=aside)
        self.assert_raises(TooMany, {"many": 25, "most": 24}, Unsure, [0] * 25, [1] * 25, aside=(1, 1))
        self.assertEqual(Unsure([1] * 24, [2] * 24, aside=(1, 1)).many, 24)

    def test_bounds(self):
        for highs in ([], [1], [1, 1, 1], [0]):
            for lows, aside in [([1, 1], (1, 1)), ([0, 1], (1, 1)), ([1, 1], (0, 1)), ([1, 1], (2, 1))]:
                self.assert_number("highs", None, Unsure, lows, highs, aside=aside)
        for wrong in (0, -1, -LARGE):
            self.assert_number("lows", 0, Unsure, [wrong, wrong], [5, 5], aside=(1, 1))
            self.assert_number("lows", 1, Unsure, [1, wrong], [1, 5], aside=(1, 1))
            self.assert_number("lows", 1, Unsure, [1, wrong], [1, wrong], aside=(0, 1))
            self.assert_number("highs", 1, Unsure, [1, 1], [1, wrong], aside=(1, 1))
            self.assert_number("aside", 0, Unsure, [1, 1], [1, 1], aside=(wrong, 1))
            self.assert_number("aside", 0, Unsure, [], [], aside=(wrong, wrong - 1))
            self.assert_number("aside", 1, Unsure, [1, 1], [1, 1], aside=(1, wrong))
        self.assert_number("highs", 1, Unsure, [1, 3, 1], [1, 2, 1], aside=(1, 1))
        self.assert_number("aside", 1, Unsure, [1], [1], aside=(LARGE, LARGE - 1))

    def test_the_order_of_the_checks(self):
        # Each thing has its low and then its high checked before the next thing.
        self.assert_number("lows", 0, Unsure, [0, 1], [-1, 1], aside=(1, 1))
        self.assert_number("highs", 0, Unsure, [2, 0], [1, 1], aside=(1, 1))
        self.assert_number("lows", 0, Unsure, [0, 2], [0, 1], aside=(1, 1))
        self.assert_number("highs", 1, Unsure, [2, 2], [2, 1], aside=(0, 1))
        self.assert_number("highs", 1, Unsure, [2, 2], [2, 1], aside=(2, 1))
        self.assert_number("aside", 0, Unsure, [2, 2], [2, 2], aside=(0, -1))

    def test_prices_and_lots(self):
        for many in (0, 1, 3, 24):
            unsure = Unsure([1] * many, [2] * many, aside=(1, 2))
            for prices, at in wrong_prices(many):
                self.assert_number("prices", at, unsure.best, prices)
                for lot in [(), *wrong_lots(many)]:
                    self.assert_number("prices", at, unsure.least, lot, prices)
                    self.assert_number("prices", at, unsure.greatest, lot, prices)
                    self.assert_number("prices", at, unsure.never_less, lot, (), prices)
                    self.assert_number("prices", at, unsure.never_less, (), lot, prices)
            for lot in wrong_lots(many):
                self.assert_raises(BadLot, {}, unsure.least, lot, [1] * many)
                self.assert_raises(BadLot, {}, unsure.greatest, lot, [1] * many)
                self.assert_raises(BadLot, {}, unsure.never_less, lot, (), [1] * many)
                self.assert_raises(BadLot, {}, unsure.never_less, (), lot, [1] * many)

    def test_too_many_to_compare(self):
        unsure = Unsure([1] * 24, [2] * 24, aside=(1, 2))
        prices = [1] * 24
        told = [((), tuple(range(9)), 9), (tuple(range(9)), (), 9), ((0, 1, 2, 3, 4), (5, 6, 7, 8), 9)]
        told = told + [(tuple(range(8)), (7, 23), 9), (tuple(range(24)), tuple(range(24)), 24)]
        for first, second, many in told:
            self.assert_raises(TooMany, {"many": many, "most": 8}, unsure.never_less, first, second, prices)
        self.assert_number("prices", 3, unsure.never_less, tuple(range(9)), (), [1, 1, 1, -1] + [1] * 20)
        self.assert_raises(BadLot, {}, unsure.never_less, tuple(range(9)), (24,), prices)
        self.assert_raises(BadLot, {}, unsure.never_less, (1, 0), tuple(range(9)), prices)


class BoundsTest(UnsureTest):
    def test_by_hand(self):
        worth, weights, aside = MIXED.greatest((0, 1), [10, 3, 6])
        # The lot brings most with the weights 2 and 1 and the aside weight 2.
        self.assertEqual([str(worth), weights, aside], ["23/5", [2, 1, 3], 2])
        worth, weights, aside = MIXED.least((0, 1), [10, 3, 6])
        self.assertEqual([str(worth), weights, aside], ["23/8", [2, 1, 3], 5])
        worth, weights, aside = MIXED.least((0, 1), [10, 2, 6])
        self.assertEqual([str(worth), weights, aside], ["28/11", [2, 4, 3], 5])

    def test_a_price_that_equals_the_worth(self):
        # The worth of thing 0 alone is 5, and so is the price of thing 1, whatever its weight is.
        unsure = Unsure([1, 3], [1, 8], aside=(1, 1))
        self.assertEqual([str(part) for part in unsure.least((0, 1), [10, 5])], ["5", "[1, 3]", "1"])
        self.assertEqual([str(part) for part in unsure.greatest((0, 1), [10, 5])], ["5", "[1, 8]", "1"])
        self.assert_bounds(unsure, (0, 1), [10, 5])

    def test_things_that_are_not_in_the_lot(self):
        for lot, told in [((), (2, 1, 3)), ((1,), (2, 4, 3)), ((1, 2), (2, 4, 9))]:
            self.assertEqual(MIXED.greatest(lot, [10, 10, 10])[1], list(told))
            self.assertEqual(MIXED.least(lot, [10, 10, 10])[1], [2, 1, 3])
        self.assertEqual([str(part) for part in MIXED.least((), [1, 1, 1])], ["0", "[2, 1, 3]", "5"])
        self.assertEqual([str(part) for part in MIXED.greatest((), [1, 1, 1])], ["0", "[2, 1, 3]", "2"])

    def test_few_things(self):
        self.assert_bounds(Unsure([], [], aside=(2, 3)), (), [])
        for lot, price in itertools.product([(), (0,)], (0, 1, 7)):
            self.assert_bounds(Unsure([2], [5], aside=(1, 4)), lot, [price])
            self.assert_bounds(Unsure([2], [2], aside=(4, 4)), lot, [price])

    def test_all_lots(self):
        bounds = [([2, 1, 3], [2, 4, 9], (2, 5)), ([1, 1, 1], [1, 1, 1], (3, 3)), ([1, 1, 1], [90, 90, 90], (1, 80))]
        for lows, highs, aside in bounds:
            unsure = Unsure(lows, highs, aside=aside)
            for prices in itertools.product((0, 1, 2, 5), repeat=3):
                for lot in all_lots(3):
                    self.assert_bounds(unsure, lot, list(prices))

    def test_bounds_by_chance(self):
        told = random.Random(27)
        for _ in range(60):
            unsure, prices = by_chance(told, 5)
            for lot in all_lots(unsure.many):
                self.assert_bounds(unsure, lot, prices)

    def test_most_things(self):
        lows = [LARGE - 10**17 - thing for thing in range(24)]
        unsure = Unsure(lows, [LARGE - thing for thing in range(24)], aside=(1, LARGE))
        prices = [LARGE // (1 + thing * 7 % 24) for thing in range(24)]
        lot = tuple(range(24))
        least, greatest = unsure.least(lot, prices), unsure.greatest(lot, prices)
        self.assert_bound(unsure, lot, prices, least, unsure.lows, unsure.highs, LARGE)
        self.assert_bound(unsure, lot, prices, greatest, unsure.highs, unsure.lows, 1)
        lot, worth = unsure.best(prices)
        self.assertEqual(lot, tuple(thing for thing in range(24) if prices[thing] > fraction(worth)))
        self.assertEqual(fraction(unsure.least(lot, prices)[0]), fraction(worth))


class BestTest(UnsureTest):
    def test_few_things(self):
        self.assert_best_of_all(Unsure([], [], aside=(1, 3)), [])
        self.assertEqual([str(part) for part in Unsure([], [], aside=(1, 3)).best([])], ["()", "0"])
        for price in (0, 4):
            self.assert_best_of_all(Unsure([2], [5], aside=(1, 3)), [price])

    def test_lots_with_the_same_least_worth(self):
        # Thing 1 costs what thing 0 alone brings at least, so it changes nothing.
        unsure = Unsure([1, 2], [3, 9], aside=(1, 1))
        lot, worth = unsure.best([10, 5])
        self.assertEqual((lot, str(worth)), ((0,), "5"))
        self.assert_best_of_all(unsure, [10, 5])
        self.assertEqual([str(part) for part in MIXED.best([0, 0, 0])], ["()", "0"])

    def test_all_prices(self):
        for unsure in (MIXED, Unsure([1, 2, 1], [4, 2, 30], aside=(1, 7)), Unsure([3, 3, 3], [3, 3, 3], aside=(2, 2))):
            for prices in itertools.product((0, 1, 2, 5, 9), repeat=3):
                self.assert_best_of_all(unsure, list(prices))

    def test_by_chance(self):
        told = random.Random(127)
        for _ in range(60):
            self.assert_best_of_all(*by_chance(told, 5))


class NeverLessTest(UnsureTest):
    def test_equal_and_empty_lots(self):
        for lot in all_lots(3):
            for prices in ([10, 3, 6], [0, 0, 0]):
                self.assertTrue(self.assert_comparison(MIXED, lot, lot, prices))
                self.assertTrue(self.assert_comparison(MIXED, lot, (), prices))
                self.assertEqual(self.assert_comparison(MIXED, (), lot, prices), lot == () or prices[0] == 0)
        self.assertIsNone(Unsure([], [], aside=(1, 2)).never_less((), (), []))

    def test_all_pairs(self):
        never = 0
        for prices in ([10, 3, 6], [4, 4, 4], [9, 8, 0], [1, 0, 50]):
            for first, second in itertools.product(all_lots(3), repeat=2):
                never = never + self.assert_comparison(MIXED, first, second, prices)
        self.assertGreater(never, 100)

    def test_it_depends_on_the_aside_weight_alone(self):
        # With the aside weight 1 thing 0 alone brings more, with the aside weight 5 both together.
        unsure = Unsure([2, 2], [2, 2], aside=(1, 5))
        self.assertEqual(unsure.never_less((0, 1), (0,), [10, 5]), ([2, 2], 1))
        self.assertEqual(unsure.never_less((0,), (0, 1), [10, 5]), ([2, 2], 5))

    def test_pairs_by_chance(self):
        told = random.Random(8)
        found = []
        for _ in range(150):
            unsure, prices = by_chance(told, 5)
            first, second = told.choice(all_lots(unsure.many)), told.choice(all_lots(unsure.many))
            found.append(self.assert_comparison(unsure, first, second, prices))
        self.assertGreater(found.count(True), 20)
        self.assertGreater(found.count(False), 20)

    def test_most_things(self):
        unsure = Unsure([3] * 24, [4] * 24, aside=(1, LARGE))
        prices = [LARGE] * 24
        first, second = (0, 3, 5, 7, 20), (1, 4, 23)
        self.assertIsNone(unsure.never_less(first, second, prices))
        self.assert_less(unsure, second, first, prices, unsure.never_less(second, first, prices))
        shared = Unsure([1, 2, 3, 4, 5, 6, 7, 8], [9] * 8, aside=(4, 5))
        told = [17, 1, 30, 2, 2, 9, 5, 6]
        self.assert_comparison(shared, tuple(range(8)), (0, 2, 5), told)
        self.assert_comparison(shared, (0, 2, 5), tuple(range(8)), told)


def by_chance(told, most):
    """Return an Unsure and prices of up to `most` things."""
    many = told.randint(1, most)
    lows = [told.randint(1, 5) for _ in range(many)]
    highs = [low + told.choice((0, 1, 4, 30)) for low in lows]
    low = told.randint(1, 6)
    return Unsure(lows, highs, aside=(low, low + told.choice((0, 2, 20)))), [told.randint(0, 9) for _ in range(many)]
