import random
from fractions import Fraction

from dearestshelf import needs as module
from dearestshelf.choices import Choice
from dearestshelf.errors import BadLot, BadNeed
from dearestshelf.needs import Closed
from dearestshelf.ratios import Ratio
from dearestshelf.weights import Weighted
from tests.helper import ShelfTest, all_lots, fraction, told_worth, wrong_lots, written

LARGE = 10**18 - 1
RULE = Weighted([2, 1, 3], 4)
RATES = [Ratio(0), Ratio(1), Ratio(5, 3), Ratio(2), Ratio(7, 2), Ratio(4), Ratio(6), Ratio(99)]


def told_allowed(choice, lot):
    return all(needed in lot for thing, needed in choice.needs if thing in lot)


class ClosedTest(ShelfTest):
    def assert_transfers(self, choice, rate):
        """Check the amounts, and the picked lot, by the sum of the gains above 0 behind them."""
        gains = [fraction(gain) for gain in choice.gains(rate)]
        lot = choice.pick(rate)
        self.assertIs(type(lot), tuple)
        self.assertIs(choice.allowed(lot), True)
        found = choice.transfers(rate)
        self.assertIs(type(found), list)
        self.assertEqual(len(found), len(choice.needs))
        amounts = [fraction(amount) for amount in found]
        self.assertTrue(all(amount >= 0 for amount in amounts))
        after = list(gains)
        for (thing, needed), amount in zip(choice.needs, amounts):
            after[thing] -= amount
            after[needed] += amount
        picked = sum((gains[thing] for thing in lot), start=Fraction(0))
        self.assertEqual(sum((gain for gain in after if gain > 0), start=Fraction(0)), picked)
        self.assertEqual(fraction(choice.surplus(rate)), picked - choice.rule.aside * fraction(rate))

    def assert_pick(self, choice, rate):
        """Check what is picked against all lots."""
        gains = [fraction(gain) for gain in choice.gains(rate)]
        sums = {
            lot: sum((gains[thing] for thing in lot), start=Fraction(0))
            for lot in all_lots(choice.rule.many)
            if told_allowed(choice, lot)
        }
        others = [lot for lot, told in sums.items() if told == max(sums.values())]
        self.assertIn(choice.pick(rate), others)
        for other in others:
            self.assertLessEqual(set(choice.pick(rate)), set(other))
        self.assert_transfers(choice, rate)

    def assert_best_lot(self, choice):
        lot, worth = choice.best()
        self.assertEqual(lot, choice.pick(worth))
        self.assertEqual(fraction(worth), told_worth(choice.rule, lot, list(choice.prices)))
        self.assertEqual(fraction(choice.surplus(worth)), 0)
        self.assert_transfers(choice, worth)
        pairs = list(choice.climb())
        told = [fraction(rate) for rate, _ in pairs]
        self.assertEqual((told[0], told[-1], pairs[-1][1]), (0, fraction(worth), lot))
        self.assertEqual(told, sorted(set(told)))
        for (_, before), rate in zip(pairs, told[1:]):
            self.assertEqual(rate, told_worth(choice.rule, before, list(choice.prices)))

    def assert_all(self, choice):
        for lot in all_lots(choice.rule.many):
            self.assertIs(choice.allowed(lot), told_allowed(choice, lot))
        for rate in RATES:
            self.assert_pick(choice, rate)
        self.assert_best_lot(choice)
        worths = {lot: told_worth(choice.rule, lot, list(choice.prices)) for lot in all_lots(choice.rule.many)}
        greatest = max(worth for lot, worth in worths.items() if told_allowed(choice, lot))
        self.assertEqual(fraction(choice.best()[1]), greatest)
        for lot, worth in worths.items():
            if worth == greatest and told_allowed(choice, lot):
                self.assertLessEqual(set(choice.best()[0]), set(lot))


class InterfaceTest(ClosedTest):
    def test_interface(self):
        self.assert_interface(module, {"Closed": "(rule, prices, *, needs)"})
        signatures = {"allowed": "(self, lot)", "pick": "(self, rate)", "transfers": "(self, rate)"}
        self.assert_interface(Closed, signatures)
        self.assertEqual(Closed.__bases__, (Choice,))

    def test_fields(self):
        choice = Closed(RULE, [10, 3, 6], needs=[(0, 1), (2, 1), (0, 1)])
        self.assertIs(choice.rule, RULE)
        self.assertEqual((choice.prices, choice.needs), ((10, 3, 6), ((0, 1), (2, 1), (0, 1))))
        self.assertEqual({type(choice.prices), type(choice.needs), *map(type, choice.needs)}, {tuple})
        self.assertEqual(Closed(RULE, [10, 3, 6], needs=[]).needs, ())

    def test_what_was_passed_in_may_be_changed(self):
        prices, needs = [10, 3, 6], [(0, 1)]
        choice = Closed(RULE, prices, needs=needs)
        self.assertEqual((prices, needs), ([10, 3, 6], [(0, 1)]))
        told = choice.best()[0]
        needs.append((0, 2))
        needs[0] = (1, 2)
        prices.clear()
        self.assertEqual((choice.needs, choice.prices, choice.best()[0]), (((0, 1),), (10, 3, 6), told))
        amounts = written(choice.transfers(Ratio(4)))
        choice.transfers(Ratio(4))[0].top = 99
        choice.transfers(Ratio(4)).clear()
        self.assertEqual(written(choice.transfers(Ratio(4))), amounts)


class ChecksTest(ClosedTest):
    def test_prices(self):
        for prices, at in [([10, 3], None), ([10, 3, 6, -1], None), ([10, -3, -6], 1)]:
            for needs in ([], [(0, 1)], [(0, 0)], [(0, 3)]):
                self.assert_number("prices", at, Closed, RULE, prices, needs=needs)

    def test_needs(self):
        for need in [(0, 0), (2, 2), (3, 0), (0, 3), (-1, 0), (0, -1), (3, 3), (-1, -1), (0, LARGE), (-LARGE, 1)]:
            self.assert_raises(BadNeed, {"at": 0}, Closed, RULE, [10, 3, 6], needs=[need])
            needs = [(0, 1), (1, 0), need, (1, 1)]
            self.assert_raises(BadNeed, {"at": 2}, Closed, RULE, [10, 3, 6], needs=needs)
        self.assert_raises(BadNeed, {"at": 0}, Closed, Weighted([], 1), [], needs=[(0, 1)])
        self.assert_raises(BadNeed, {"at": 0}, Closed, Weighted([1], 1), [5], needs=[(0, 1)])
        self.assert_raises(BadNeed, {"at": 59}, Closed, RULE, [10, 3, 6], needs=[(0, 1)] * 59 + [(3, 1)])

    def test_lots(self):
        for many in (0, 1, 3, 24):
            needs = [(thing, thing - 1) for thing in range(1, many)]
            choice = Closed(Weighted([1] * many, 1), [1] * many, needs=needs)
            for lot in wrong_lots(many):
                self.assert_raises(BadLot, {}, choice.allowed, lot)


class ByHandTest(ClosedTest):
    def test_a_thing_that_needs_a_cheap_one(self):
        choice = Closed(Weighted([1, 1, 1], 1), [12, 0, 3], needs=[(0, 1)])
        told = [("0", (0, 1, 2)), ("15/4", (0, 1)), ("4", (0, 1))]
        self.assertEqual([(str(rate), lot) for rate, lot in choice.climb()], told)
        self.assertEqual((choice.best()[0], str(choice.best()[1])), ((0, 1), "4"))
        self.assert_ratio(choice.surplus(Ratio(2)), 7)
        self.assert_all(choice)

    def test_a_need_that_takes_the_whole_gain(self):
        # At the rate 4 thing 0 gains just what thing 1 loses: the empty lot is as good.
        choice = Closed(Weighted([1, 1], 1), [8, 0], needs=[(0, 1)])
        self.assertEqual(choice.pick(Ratio(4)), ())
        self.assertEqual(written(choice.transfers(Ratio(4))), ["4"])
        self.assertEqual(choice.pick(Ratio(39, 10)), (0, 1))
        self.assert_all(choice)

    def test_a_thing_without_gain_that_is_needed(self):
        choice = Closed(Weighted([1, 1, 1], 1), [9, 4, 4], needs=[(0, 1)])
        self.assertEqual(choice.pick(Ratio(4)), (0, 1))
        self.assertEqual(Closed(Weighted([1, 1, 1], 1), [9, 4, 4], needs=[]).pick(Ratio(4)), (0,))

    def test_gains_that_pay_for_one_thing_together(self):
        # Things 0 and 1 pay for thing 2 together, and thing 0 must leave its part to thing 1, which pays nothing else.
        choice = Closed(Weighted([1, 1, 1, 1], 1), [6, 5, 0, 1], needs=[(0, 2), (0, 3), (1, 2)])
        for rate in (2, 3, 4):
            self.assert_pick(choice, Ratio(rate))
        self.assert_all(choice)

    def test_amounts_that_are_taken_back(self):
        # Thing 0 may pay for 2 or 3, thing 1 for 2 alone: whatever 0 gives 2 first, 1 takes its place.
        rule = Weighted([1, 1, 1, 1], 1)
        for needs in ([(0, 2), (0, 3), (1, 2)], [(0, 3), (0, 2), (1, 2)], [(1, 2), (0, 2), (0, 3)]):
            choice = Closed(rule, [8, 8, 0, 0], needs=needs)
            self.assertEqual(choice.pick(Ratio(4)), ())
            self.assertEqual(sum(fraction(amount) for amount in choice.transfers(Ratio(4))), 8)
            self.assert_all(choice)


class SomeNeedsTest(ClosedTest):
    def test_few_things(self):
        self.assert_all(Closed(Weighted([], 1), [], needs=[]))
        self.assert_all(Closed(Weighted([3], 2), [5], needs=[]))
        self.assert_all(Closed(Weighted([3], 2), [0], needs=[]))

    def test_without_needs_everything_is_allowed(self):
        for prices in ([10, 3, 6], [1, 1, 8], [0, 0, 0]):
            choice = Closed(RULE, prices, needs=[])
            self.assertEqual(choice.best()[0], RULE.best(prices)[0])
            self.assertEqual(choice.transfers(Ratio(2)), [])
            self.assert_all(choice)

    def test_needs_in_a_ring(self):
        for prices in ([9, 0, 1, 4], [3, 3, 3, 3], [0, 8, 0, 8]):
            choice = Closed(Weighted([2, 1, 3, 1], 2), prices, needs=[(0, 1), (1, 2), (2, 0)])
            self.assertIn(choice.best()[0], [(), (3,), (0, 1, 2), (0, 1, 2, 3)])
            self.assert_all(choice)
        self.assert_all(Closed(RULE, [9, 0, 1], needs=[(0, 1), (1, 0)]))

    def test_needs_in_a_chain(self):
        for prices in ([9, 0, 1, 4, 0], [40, 0, 1, 4, 0], [0, 1, 2, 3, 4], [4, 4, 4, 4, 4]):
            for needs in ([(0, 1), (1, 2), (2, 3), (3, 4)], [(4, 3), (3, 2), (2, 1), (1, 0)]):
                self.assert_all(Closed(Weighted([2, 1, 3, 1, 2], 2), prices, needs=needs))

    def test_the_same_need_twice(self):
        once = Closed(RULE, [10, 0, 6], needs=[(0, 1), (2, 1)])
        twice = Closed(RULE, [10, 0, 6], needs=[(0, 1), (2, 1), (0, 1), (0, 1)])
        self.assertEqual(once.best()[0], twice.best()[0])
        self.assertEqual(len(twice.transfers(Ratio(3))), 4)
        self.assert_all(twice)

    def test_needs_by_chance(self):
        told = random.Random(21)
        for _ in range(150):
            many = told.randint(2, 5)
            rule = Weighted([told.randint(1, 5) for _ in range(many)], told.randint(1, 5))
            prices = [told.choice((0, told.randint(0, 9))) for _ in range(many)]
            needs = [tuple(told.sample(range(many), 2)) for _ in range(told.randint(0, 7))]
            self.assert_all(Closed(rule, prices, needs=needs))

    def test_most_things_and_sixty_needs(self):
        told = random.Random(22)
        rule = Weighted([LARGE - told.randint(0, 9) * 10**17 for _ in range(24)], 10**17)
        prices = [told.choice((0, LARGE // told.randint(1, 9))) for _ in range(24)]
        halves = [(told.randrange(12), 12 + told.randrange(12)) for _ in range(60)]
        layers = [(told.randrange(at, at + 6), told.randrange(at + 6, at + 12)) for at in (0, 6, 12) * 20]
        mixed = [tuple(told.sample(range(24), 2)) for _ in range(60)]
        ring = [(thing, (thing + 1) % 24) for thing in range(24)] * 2 + [(0, 12)] * 12
        for needs in (halves, layers, mixed, ring, [(thing, 23) for thing in range(20)] * 3):
            choice = Closed(rule, prices, needs=needs)
            self.assertEqual(len(choice.needs), 60)
            self.assert_best_lot(choice)
            for number in range(0, 12, 2):
                self.assert_transfers(choice, Ratio(LARGE * number, 20))
                self.assertEqual(told_allowed(choice, choice.pick(Ratio(LARGE * number, 20))), True)
