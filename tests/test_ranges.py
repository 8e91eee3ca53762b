import itertools
import random
from fractions import Fraction

from dearestshelf import ranges as module
from dearestshelf.choices import AtMost, Choice, Limited, OneEach
from dearestshelf.errors import TooMany
from dearestshelf.ranges import aside_ranges
from dearestshelf.weights import Weighted
from tests.helper import ShelfTest, fraction

LARGE = 10**18 - 1
RULE = Weighted([2, 1, 3], 4)


def with_aside(choice, aside):
    """Return the same choice with another aside weight, a fraction."""
    weights = [weight * aside.denominator for weight in choice.rule.weights]
    rule = Weighted(weights, aside.numerator)
    limits = {name: list(told) if name == "groups" else told for name, told in vars(choice).items()}
    limits = {name: limits[name] for name in ("most", "groups") if name in limits}
    return type(choice)(rule, list(choice.prices), **limits)


def each_kind(rule, prices, most, groups):
    return [
        Choice(rule, prices),
        AtMost(rule, prices, most=most),
        OneEach(rule, prices, groups=groups),
        Limited(rule, prices, most=most, groups=groups),
    ]


class RangesTest(ShelfTest):
    def told(self, choice):
        """Return the ranges with their ends as text, after a look at their kinds."""
        found = aside_ranges(choice)
        self.assertIs(type(found), list)
        self.assertEqual({type(triple) for triple in found}, {tuple})
        return [
            (str(fraction(low)), None if high is None else str(fraction(high)), lot) for low, high, lot in found
        ]

    def assert_ranges(self, choice):
        """Check the ends, and the lots at some aside weights between them, close to them too."""
        found = aside_ranges(choice)
        lows = [fraction(low) for low, _, _ in found]
        self.assertEqual(lows[0], 0)
        self.assertEqual([fraction(high) for _, high, _ in found[:-1]], lows[1:])
        self.assertIs(found[-1][1], None)
        self.assertTrue(all(low < high for low, high in itertools.pairwise(lows)))
        lots = [lot for _, _, lot in found]
        self.assertTrue(all(before != after for before, after in itertools.pairwise(lots)))
        for low, high, lot in zip(lows, [*lows[1:], lows[-1] * 2 + 100], lots):
            for part in (Fraction(1, 10**9), Fraction(1, 3), Fraction(1, 2), 1 - Fraction(1, 10**9)):
                self.assertEqual(with_aside(choice, low + (high - low) * part).best()[0], lot)
        self.assertEqual(with_aside(choice, Fraction(10**40)).best()[0], lots[-1])
        self.assertEqual(with_aside(choice, Fraction(1, 10**40)).best()[0], lots[0])

    def test_interface(self):
        self.assert_interface(module, {"aside_ranges": "(choice)"})

    def test_by_hand(self):
        # At the rate 6 thing 0 gains 8, at the rate 3 things 0 and 2 gain 14 and 9.
        told = [("0", "4/3", (0,)), ("4/3", "23/3", (0, 2)), ("23/3", None, (0, 1, 2))]
        self.assertEqual(self.told(Choice(RULE, [10, 3, 6])), told)
        self.assertEqual(self.told(AtMost(RULE, [10, 3, 6], most=1)), [("0", None, (0,))])
        self.assertEqual(self.told(AtMost(RULE, [10, 3, 6], most=2)), [*told[:1], ("4/3", None, (0, 2))])
        # From the rate 5/2 down thing 1 gains more than thing 0.
        rule = Weighted([1, 5], 1)
        told = [("0", "3", (0,)), ("3", None, (1,))]
        self.assertEqual(self.told(AtMost(rule, [10, 4], most=1)), told)
        self.assertEqual(self.told(OneEach(rule, [10, 4], groups=[8, 8])), told)
        self.assertEqual(self.told(Limited(rule, [10, 4], most=2, groups=[8, 8])), told)
        self.assertEqual(self.told(Limited(rule, [10, 4], most=1, groups=[8, 9])), told)
        self.assertEqual(
            self.told(Limited(rule, [10, 4], most=2, groups=[8, 9])), [("0", "3/2", (0,)), ("3/2", None, (0, 1))]
        )

    def test_the_aside_weight_of_the_rule_plays_no_part(self):
        for aside in (1, 5, LARGE):
            rule = Weighted([2, 1, 3], aside)
            for choice, told in zip(
                each_kind(rule, [10, 3, 6], 2, [1, 2, 1]), each_kind(RULE, [10, 3, 6], 2, [1, 2, 1])
            ):
                self.assertEqual(self.told(choice), self.told(told))

    def test_few_things(self):
        for most in (0, 1, 9):
            for choice in each_kind(Weighted([], 3), [], most, []):
                self.assertEqual(self.told(choice), [("0", None, ())])
            for choice in each_kind(Weighted([2], 3), [0], most, [1]):
                self.assertEqual(self.told(choice), [("0", None, ())])
        for choice in each_kind(Weighted([2], 3), [7], 1, [1]):
            self.assertEqual(self.told(choice), [("0", None, (0,))])

    def test_nothing_may_stand(self):
        self.assertEqual(self.told(AtMost(RULE, [10, 3, 6], most=0)), [("0", None, ())])
        self.assertEqual(self.told(Limited(RULE, [10, 3, 6], most=0, groups=[1, 2, 3])), [("0", None, ())])

    def test_equal_prices_and_prices_of_0(self):
        self.assertEqual(self.told(Choice(RULE, [0, 0, 0])), [("0", None, ())])
        self.assertEqual(self.told(Choice(RULE, [5, 5, 5])), [("0", None, (0, 1, 2))])
        self.assertEqual(self.told(Choice(RULE, [0, 5, 0])), [("0", None, (1,))])
        self.assertEqual(self.told(AtMost(RULE, [5, 5, 5], most=2)), [("0", None, (0, 2))])
        self.assertEqual(self.told(OneEach(RULE, [5, 5, 5], groups=[1, 1, 1])), [("0", None, (2,))])
        rule = Weighted([1, 1, 1], 4)
        self.assertEqual(self.told(AtMost(rule, [5, 5, 5], most=2)), [("0", None, (0, 1))])
        for prices in ([5, 5, 5], [0, 0, 0], [5, 0, 5]):
            for choice in each_kind(RULE, prices, 2, [1, 1, 2]):
                self.assert_ranges(choice)

    def test_rates_at_which_nothing_changes(self):
        # Things 0 and 1 have the same gain at the rate 4, but both stand there, or only thing 2 does.
        rule = Weighted([2, 3, 1], 1)
        self.assertEqual(self.told(Choice(rule, [10, 8, 0])), [("0", "1/2", (0,)), ("1/2", None, (0, 1))])
        rule = Weighted([2, 3, 100], 1)
        self.assertEqual(self.told(AtMost(rule, [10, 8, 99], most=1)), [("0", None, (2,))])
        self.assert_ranges(AtMost(rule, [10, 8, 99], most=1))

    def test_prices_of_a_small_grid(self):
        for prices in itertools.product((0, 2, 3, 7), repeat=3):
            for choice in each_kind(Weighted([3, 5, 1], 2), list(prices), 1, [4, -4, 4]):
                self.assert_ranges(choice)

    def test_choices_by_chance(self):
        told = random.Random(23)
        for _ in range(60):
            many = told.randint(2, 7)
            rule = Weighted([told.randint(1, 8) for _ in range(many)], told.randint(1, 9))
            prices = [told.randint(0, 12) for _ in range(many)]
            groups = [told.randint(-2, 1) for _ in range(many)]
            for choice in each_kind(rule, prices, told.randint(0, many), groups):
                self.assert_ranges(choice)

    def test_number_of_things(self):
        weights = [LARGE - 7 * thing * thing * 10**15 for thing in range(12)]
        prices = [LARGE // (1 + thing * 5 % 12) for thing in range(12)]
        for choice in each_kind(Weighted(weights, 1), prices, 3, [1, 2, 3, 4, 5, 6] * 2):
            self.assert_ranges(choice)
        self.assertEqual(len(aside_ranges(Choice(Weighted(weights, 1), prices))), 12)
        for many in (13, 24):
            for choice in each_kind(Weighted([1] * many, 1), [1] * many, 3, [1] * many):
                self.assert_raises(TooMany, {"many": many, "most": 12}, aside_ranges, choice)

    def test_a_returned_list_may_be_changed(self):
        choice = Choice(RULE, [10, 3, 6])
        told = self.told(choice)
        found = aside_ranges(choice)
        for low, high, _ in found[:-1]:
            low.top = high.top = 77
        found.clear()
        self.assertEqual(self.told(choice), told)
        self.assertEqual((choice.prices, choice.rule.aside, choice.best()[0]), ((10, 3, 6), 4, (0, 2)))
