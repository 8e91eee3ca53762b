import itertools
import random
from fractions import Fraction

from dearestshelf import choices as module
from dearestshelf.choices import AtMost, Choice, Limited, OneEach
from dearestshelf.errors import BadLot
from dearestshelf.ratios import Ratio
from dearestshelf.weights import Weighted
from tests.helper import ShelfTest, all_lots, fraction, told_worth, wrong_lots, written

LARGE = 10**18 - 1
RULE = Weighted([2, 1, 3], 4)
RATES = [Ratio(0), Ratio(1, 2), Ratio(1), Ratio(5, 3), Ratio(2), Ratio(3), Ratio(4), Ratio(7, 2), Ratio(99)]


def told_pick(choice, rate):
    """Return the lot to pick, from the fields alone: things with a gain above 0 by falling gain, the lower first."""
    prices, weights = choice.prices, choice.rule.weights
    gains = [weight * (price - fraction(rate)) for weight, price in zip(weights, prices)]
    picked = []
    groups = []
    for thing in sorted(range(len(gains)), key=lambda at: (-gains[at], at)):
        group = choice.groups[thing] if isinstance(choice, OneEach) else thing
        full = isinstance(choice, AtMost) and len(picked) >= choice.most
        if gains[thing] > 0 and group not in groups and not full:
            picked.append(thing)
            groups.append(group)
    return tuple(sorted(picked))


def told_allowed(choice, lot):
    if isinstance(choice, AtMost) and len(lot) > choice.most:
        return False
    return not isinstance(choice, OneEach) or len({choice.groups[thing] for thing in lot}) == len(lot)


def each_kind(rule, prices, most, groups):
    return [
        Choice(rule, prices),
        AtMost(rule, prices, most=most),
        OneEach(rule, prices, groups=groups),
        Limited(rule, prices, most=most, groups=groups),
    ]


class ChoiceTest(ShelfTest):
    def gains(self, choice, rate):
        found = choice.gains(rate)
        self.assertIs(type(found), list)
        return [fraction(gain) for gain in found]

    def assert_pick(self, choice, rate):
        """Check what is picked at a rate, and what the gains say of it."""
        lot = choice.pick(rate)
        self.assertIs(type(lot), tuple)
        self.assertEqual(lot, told_pick(choice, rate))
        self.assertIs(choice.allowed(lot), True)
        gains = self.gains(choice, rate)
        self.assertEqual(
            gains, [w * (p - fraction(rate)) for w, p in zip(choice.rule.weights, choice.prices)]
        )
        told = sum(gains[thing] for thing in lot) - choice.rule.aside * fraction(rate)
        self.assertEqual(fraction(choice.surplus(rate)), told)

    def assert_greatest_gains(self, choice, rate):
        """Check what is picked against all lots that are allowed."""
        gains = self.gains(choice, rate)
        lots = [lot for lot in all_lots(choice.rule.many) if told_allowed(choice, lot)]
        greatest = max(sum((gains[thing] for thing in lot), start=Fraction(0)) for lot in lots)
        self.assertEqual(sum((gains[thing] for thing in choice.pick(rate)), start=Fraction(0)), greatest)

    def assert_best_lot(self, choice):
        """Check `best` and `climb` against each other, and what both must fulfil."""
        best = choice.best()
        self.assertIs(type(best), tuple)
        lot, worth = best
        self.assertEqual(lot, told_pick(choice, worth))
        self.assertEqual(fraction(worth), told_worth(choice.rule, lot, list(choice.prices)))
        self.assertEqual(fraction(choice.surplus(worth)), 0)
        pairs = list(choice.climb())
        self.assertEqual((pairs[-1][1], fraction(pairs[-1][0])), (lot, fraction(worth)))
        rate = Fraction(0)
        for at, (found_rate, found_lot) in enumerate(pairs):
            self.assertIs(type(pairs[at]), tuple)
            self.assertEqual(fraction(found_rate), rate)
            self.assertEqual(found_lot, told_pick(choice, found_rate))
            rate = told_worth(choice.rule, found_lot, list(choice.prices))
            if at < len(pairs) - 1:
                self.assertGreater(rate, fraction(found_rate))
        self.assertEqual(rate, fraction(worth))

    def assert_best_of_allowed_lots(self, choice):
        worths = [
            told_worth(choice.rule, lot, list(choice.prices))
            for lot in all_lots(choice.rule.many)
            if told_allowed(choice, lot)
        ]
        self.assertEqual(fraction(choice.best()[1]), max(worths))
        self.assert_best_lot(choice)

    def assert_all(self, choice):
        for lot in all_lots(choice.rule.many):
            self.assertIs(choice.allowed(lot), told_allowed(choice, lot))
        self.assert_best_of_allowed_lots(choice)
        for rate in RATES:
            self.assert_pick(choice, rate)
            self.assert_greatest_gains(choice, rate)


class InterfaceTest(ChoiceTest):
    def test_interface(self):
        signatures = {
            "Choice": "(rule, prices)",
            "AtMost": "(rule, prices, *, most)",
            "OneEach": "(rule, prices, *, groups)",
            "Limited": "(rule, prices, *, most, groups)",
        }
        self.assert_interface(module, signatures)
        listed = {"allowed": "(self, lot)", "pick": "(self, rate)"}
        others = {"gains": "(self, rate)", "surplus": "(self, rate)", "best": "(self)", "climb": "(self)"}
        self.assert_interface(Choice, {**listed, **others})
        self.assert_interface(AtMost, listed)
        self.assert_interface(OneEach, listed)
        self.assertEqual((AtMost.__bases__, OneEach.__bases__), ((Choice,), (Choice,)))
        self.assertEqual(Limited.__bases__, (AtMost, OneEach))

    def test_fields(self):
        for choice in each_kind(RULE, [10, 3, 6], 2, [5, -1, 5]):
            self.assertIs(choice.rule, RULE)
            self.assertEqual(choice.prices, (10, 3, 6))
            self.assertIs(type(choice.prices), tuple)
            self.assertEqual("most" in vars(choice), isinstance(choice, AtMost))
            self.assertEqual("groups" in vars(choice), isinstance(choice, OneEach))
        choice = Limited(RULE, [10, 3, 6], most=10**59, groups=[5, -1, 5])
        self.assertEqual((choice.most, choice.groups), (10**59, (5, -1, 5)))
        self.assertIs(type(choice.groups), tuple)

    def test_climb_is_a_generator(self):
        for choice in each_kind(RULE, [10, 3, 6], 2, [5, -1, 5]):
            self.assertEqual(type(choice.climb()).__name__, "generator")

    def test_what_was_passed_in_may_be_changed(self):
        prices, groups = [10, 3, 6], [0, 1, 0]
        choices = each_kind(RULE, prices, 2, groups)
        told = [choice.best()[0] for choice in choices]
        self.assertEqual((prices, groups), ([10, 3, 6], [0, 1, 0]))
        prices[0] = 0
        prices.append(4)
        groups[2] = 7
        groups.pop()
        for choice, lot in zip(choices, told):
            self.assertEqual((choice.prices, choice.best()[0]), ((10, 3, 6), lot))
            choice.gains(Ratio(1)).clear()
            choice.gains(Ratio(1))[0].top = 5
            self.assertEqual(written(choice.gains(Ratio(1))), ["18", "2", "15"])
        self.assertEqual(choices[3].groups, (0, 1, 0))


class ChecksTest(ChoiceTest):
    def kinds(self, rule):
        return [
            (Choice, {}),
            (AtMost, {"most": 1}),
            (OneEach, {"groups": [1] * rule.many}),
            (Limited, {"most": 1, "groups": [1] * rule.many}),
        ]

    def test_prices(self):
        wrong = [([10, 3], None), ([10, 3, 6, 1], None), ([], None), ([10, -3, -6], 1), ([-1, 3, 6], 0)]
        for kind, more in self.kinds(RULE):
            for prices, at in wrong:
                self.assert_number("prices", at, kind, RULE, prices, **more)
        for kind, more in self.kinds(Weighted([], 1)):
            self.assert_number("prices", None, kind, Weighted([], 1), [1], **more)
            self.assert_number("prices", None, kind, Weighted([], 1), [-1], **more)

    def test_groups_and_most(self):
        for groups in ([], [1, 2], [1, 2, 3, 4]):
            self.assert_number("groups", None, OneEach, RULE, [10, 3, 6], groups=groups)
            self.assert_number("groups", None, Limited, RULE, [10, 3, 6], most=2, groups=groups)
        for most in (-1, -LARGE):
            self.assert_number("most", None, AtMost, RULE, [10, 3, 6], most=most)
            self.assert_number("most", None, Limited, RULE, [10, 3, 6], most=most, groups=[1, 2, 3])

    def test_the_order_of_the_checks(self):
        self.assert_number("prices", 2, AtMost, RULE, [10, 3, -6], most=-1)
        self.assert_number("prices", 2, OneEach, RULE, [10, 3, -6], groups=[1])
        self.assert_number("prices", 2, Limited, RULE, [10, 3, -6], most=-1, groups=[1, 2, 3])
        self.assert_number("prices", None, Limited, RULE, [10, 3], most=1, groups=[1, 2])
        self.assert_number("groups", None, Limited, RULE, [10, 3, 6], most=-1, groups=[1, 2])

    def test_lots(self):
        for many in (0, 1, 3, 24):
            rule = Weighted([1] * many, 1)
            for choice in each_kind(rule, [1] * many, 1, list(range(many))):
                for lot in wrong_lots(many):
                    self.assert_raises(BadLot, {}, choice.allowed, lot)
        for choice in each_kind(RULE, [10, 3, 6], 0, [1, 1, 1]):
            self.assert_raises(BadLot, {}, choice.allowed, (0, 0))


class ByHandTest(ChoiceTest):
    def test_example(self):
        lot, worth = AtMost(RULE, [10, 3, 6], most=1).best()
        self.assertEqual([lot, str(worth)], [(0,), "10/3"])

    def test_gains_and_surplus(self):
        choice = Choice(RULE, [10, 3, 6])
        self.assertEqual(written(choice.gains(Ratio(0))), ["20", "3", "18"])
        self.assertEqual(written(choice.gains(Ratio(5, 2))), ["15", "1/2", "21/2"])
        self.assertEqual(written(choice.gains(Ratio(11))), ["-2", "-8", "-15"])
        self.assert_ratio(choice.surplus(Ratio(0)), 41)
        self.assert_ratio(choice.surplus(Ratio(41, 10)), 11, 10)
        self.assert_ratio(choice.surplus(Ratio(11)), -44)
        self.assert_ratio(AtMost(RULE, [10, 3, 6], most=1).surplus(Ratio(3)), 2)
        self.assert_ratio(AtMost(RULE, [10, 3, 6], most=0).surplus(Ratio(0)), 0)

    def test_climb(self):
        told = [("0", (0, 1, 2)), ("41/10", (0, 2)), ("38/9", (0, 2))]
        self.assertEqual([(str(rate), lot) for rate, lot in Choice(RULE, [10, 3, 6]).climb()], told)
        told = [("0", (0,)), ("10/3", (0,))]
        self.assertEqual([(str(rate), lot) for rate, lot in AtMost(RULE, [10, 3, 6], most=1).climb()], told)
        # Thing 1 has the greatest gain at the rate 0, and thing 0 from the rate 5/2 on.
        choice = AtMost(Weighted([1, 5], 1), [10, 4], most=1)
        told = [("0", (1,)), ("10/3", (0,)), ("5", (0,))]
        self.assertEqual([(str(rate), lot) for rate, lot in choice.climb()], told)

    def test_nothing_to_climb(self):
        for choice in (Choice(RULE, [0, 0, 0]), AtMost(RULE, [10, 3, 6], most=0), Choice(Weighted([], 2), [])):
            self.assertEqual([(str(rate), lot) for rate, lot in choice.climb()], [("0", ())])
            self.assertEqual(choice.best()[0], ())
            self.assert_ratio(choice.best()[1], 0)

    def test_equal_gains(self):
        choice = AtMost(Weighted([1, 2, 4, 1], 1), [9, 5, 3, 9], most=2)
        # At the rate 1 the gains are 8, 8, 8, 8.
        self.assertEqual(choice.pick(Ratio(1)), (0, 1))
        self.assertEqual(OneEach(choice.rule, choice.prices, groups=[7, 8, 7, 8]).pick(Ratio(1)), (0, 1))
        self.assertEqual(OneEach(choice.rule, choice.prices, groups=[7, 8, 8, 7]).pick(Ratio(1)), (0, 1))
        self.assertEqual(OneEach(choice.rule, choice.prices, groups=[7, 7, 7, 7]).pick(Ratio(1)), (0,))
        self.assertEqual(OneEach(choice.rule, choice.prices, groups=[7, 7, 8, 9]).pick(Ratio(1)), (0, 2, 3))
        found = Limited(choice.rule, choice.prices, most=2, groups=[7, 7, 8, 9])
        self.assertEqual(found.pick(Ratio(1)), (0, 2))

    def test_a_gain_of_0_is_not_picked(self):
        for choice in each_kind(RULE, [10, 3, 6], 3, [0, 1, 2]):
            self.assertEqual(choice.pick(Ratio(6)), (0,))
            self.assertEqual(choice.pick(Ratio(10)), ())
            self.assertEqual(choice.pick(Ratio(59, 10)), (0, 2))

    def test_the_greatest_gain_is_not_the_greatest_price(self):
        rule = Weighted([1, 5, 2], 3)
        self.assertEqual(AtMost(rule, [10, 4, 6], most=1).pick(Ratio(0)), (1,))
        self.assertEqual(AtMost(rule, [10, 4, 6], most=2).pick(Ratio(0)), (1, 2))
        self.assertEqual(OneEach(rule, [10, 4, 6], groups=[0, 0, 0]).pick(Ratio(0)), (1,))
        self.assertEqual(OneEach(rule, [10, 4, 6], groups=[0, 1, 0]).pick(Ratio(0)), (1, 2))
        # One thing of each group, though thing 0 and thing 1 have greater gains than thing 3.
        choice = Limited(Weighted([1, 5, 2, 1], 3), [10, 4, 6, 1], most=2, groups=[0, 0, 0, 1])
        self.assertEqual(choice.pick(Ratio(0)), (1, 3))


class SomeChoicesTest(ChoiceTest):
    def test_few_things(self):
        for most in (0, 1, 5):
            for choice in each_kind(Weighted([], 3), [], most, []):
                self.assert_all(choice)
            for choice in each_kind(Weighted([2], 3), [4], most, [-9]):
                self.assert_all(choice)
        for choice in each_kind(Weighted([2], 3), [0], 1, [0]):
            self.assert_all(choice)

    def test_each_most_and_all_kinds_of_groups(self):
        rule = Weighted([3, 1, 2, 6], 2)
        all_groups = [[4, 4, 4, 4], [1, 2, 3, 4], [-1, 5, -1, 5], [-2, -1, -1, -2], [0, 0, 10**59, 0]]
        for prices in ([2, 6, 3, 1], [4, 4, 4, 4], [1, 7, 2, 0], [0, 0, 0, 0]):
            for most, groups in itertools.product((0, 1, 2, 3, 4, 5, LARGE), all_groups):
                for choice in each_kind(rule, prices, most, groups)[0 if most == 0 else 1 :]:
                    self.assert_best_of_allowed_lots(choice)
            for most, groups in itertools.product((1, 2, 4), all_groups[2:]):
                for choice in each_kind(rule, prices, most, groups):
                    self.assert_all(choice)

    def test_choices_by_chance(self):
        told = random.Random(20)
        for _ in range(60):
            many = told.randint(2, 5)
            rule = Weighted([told.randint(1, 6) for _ in range(many)], told.randint(1, 9))
            prices = [told.randint(0, 9) for _ in range(many)]
            groups = [told.randint(-1, 2) for _ in range(many)]
            for choice in each_kind(rule, prices, told.randint(0, many), groups):
                self.assert_all(choice)

    def test_a_limit_that_does_not_bind(self):
        for prices in ([10, 3, 6], [1, 1, 8], [0, 0, 0]):
            told = RULE.best(prices)
            for choice in each_kind(RULE, prices, 3, [1, 2, 3]):
                lot, worth = choice.best()
                self.assertEqual((lot, fraction(worth)), (told[0], fraction(told[1])))

    def test_most_things(self):
        rule = Weighted([LARGE - 31 * thing * thing for thing in range(24)], LARGE)
        prices = [LARGE // (1 + thing * 7 % 24) for thing in range(24)]
        lot, worth = rule.best(prices)
        self.assertEqual(fraction(Choice(rule, prices).best()[1]), fraction(worth))
        self.assertEqual(Choice(rule, prices).best()[0], lot)
        for most, groups in [(24, list(range(24))), (3, [0] * 24), (1, list(range(24))), (5, [1, 2, 3, 4] * 6)]:
            for choice in each_kind(rule, prices, most, groups):
                self.assert_best_lot(choice)
                self.assertIs(choice.allowed(tuple(range(24))), told_allowed(choice, tuple(range(24))))
                for rate in (worth, worth + 1, worth.over(3), Ratio(LARGE)):
                    self.assert_pick(choice, rate)
