import itertools

from dearestshelf import mixes
from dearestshelf.errors import NoBuyers, TooMany, Unlike
from dearestshelf.mixes import Mixed
from dearestshelf.rules import Listed, Rule
from dearestshelf.tables import Tabled
from dearestshelf.weights import Weighted
from tests.helper import ShelfTest, all_lots, fraction

HEAVY = Weighted([2, 1], 1)
LISTS = Listed(2, [(1, (1, 0)), (1, (0,))])
TABLE = Tabled(2, [[1, 0, 0], [3, 1, 0], [2, 0, 1], [4, 1, 2]])


class MixedTest(ShelfTest):
    def test_interface(self):
        self.assert_interface(mixes, {"Mixed": "(*parts)"})
        self.assert_interface(Mixed, {"shares": "(self, lot)", "bound": "(self, prices)"})
        self.assertTrue(issubclass(Mixed, Rule))

    def test_fields(self):
        rule = Mixed((3, HEAVY), (1, LISTS))
        self.assertEqual(rule.many, 2)
        self.assertEqual(rule.parts, ((3, HEAVY), (1, LISTS)))
        self.assertIs(type(rule.parts), tuple)

    def test_shares_by_hand(self):
        rule = Mixed((3, HEAVY), (1, LISTS))
        self.assert_shares(rule, (), [0, 0])
        self.assert_shares(rule, (0,), ["3/4", 0])
        self.assert_shares(rule, (1,), [0, "1/2"])
        self.assert_shares(rule, (0, 1), ["1/2", "5/16"])
        self.assert_ratio(rule.worth((0, 1), [4, 16]), 7)

    def test_one_part_has_the_shares_of_its_rule(self):
        for part in (HEAVY, LISTS, TABLE, Rule(2)):
            for lot in all_lots(2):
                self.assert_shares(Mixed((7, part)), lot, [fraction(share) for share in part.shares(lot)])

    def test_mixtures_of_mixtures_and_of_each_kind(self):
        inner = Mixed((3, HEAVY), (1, LISTS))
        rule = Mixed((2, inner), (1, TABLE), (1, Rule(2)))
        self.assert_shares(rule, (0,), ["11/24", 0])
        self.assert_shares(rule, (1,), [0, "3/8"])
        self.assert_shares(rule, (0, 1), ["5/16", "9/32"])
        for prices in itertools.product((0, 2, 3, 9), repeat=2):
            self.assert_best_of_all_lots(rule, list(prices))
            told = (2 * fraction(inner.bound(list(prices))) + fraction(TABLE.best(list(prices))[1])) / 4
            self.assertGreaterEqual(told, fraction(rule.bound(list(prices))))

    def test_number_of_things(self):
        self.assert_shares(Mixed((1, Rule(0)), (2, Weighted([], 5))), (), [])
        self.assert_shares(Mixed((1, Weighted([1], 1)), (1, Weighted([2], 1))), (0,), ["7/12"])
        most = Mixed((1, Weighted([1] * 24, 1)), (1, Rule(24)))
        self.assert_shares(most, tuple(range(24)), ["1/50"] * 24)
        self.assert_best_dearest(most, [3] * 24, 24, "36/25")
        self.assert_raises(TooMany, {"many": 24, "most": 6}, most.best, [3] * 24)

    def test_checks_in_their_order(self):
        self.assert_raises(NoBuyers, {}, Mixed)
        for buyers in (0, -1):
            self.assert_number("buyers", 0, Mixed, (buyers, HEAVY))
            self.assert_number("buyers", 0, Mixed, (buyers, HEAVY), (1, Rule(3)))
            self.assert_number("buyers", 1, Mixed, (1, HEAVY), (buyers, Rule(3)))
            self.assert_number("buyers", 2, Mixed, (1, HEAVY), (1, LISTS), (buyers, LISTS), (1, Rule(1)))
            self.assert_raises(Unlike, {"at": 1}, Mixed, (1, HEAVY), (1, Rule(3)), (buyers, HEAVY))
        self.assert_raises(Unlike, {"at": 2}, Mixed, (1, HEAVY), (1, LISTS), (1, Rule(1)), (1, Rule(0)))
        self.assert_raises(Unlike, {"at": 1}, Mixed, (1, Rule(3)), (1, HEAVY), (1, HEAVY))

    def test_wrong_lots_and_prices(self):
        for many in (0, 1, 3):
            rule = Mixed((1, Weighted([2] * many, 1)), (2, Rule(many)))
            self.assert_wrong_lots(rule)
            self.assert_wrong_prices(rule, rule.best, rule.best_dearest, rule.bound)

    def test_many_buyers(self):
        rule = Mixed((10**18 - 1, Listed(1, [(1, (0,))])), (1, Rule(1)))
        self.assert_ratio(rule.away((0,)), 1, 10**18)


class BoundTest(ShelfTest):
    def test_bound_by_hand(self):
        # HEAVY brings 8 with thing 1 alone, and LISTS brings 10 with both things.
        prices = [4, 16]
        self.assert_ratio(Mixed((3, HEAVY), (1, LISTS)).bound(prices), 17, 2)
        self.assertEqual(prices, [4, 16])
        self.assert_ratio(Mixed((1, Rule(2))).bound(prices), 0)
        self.assert_ratio(Mixed((5, LISTS)).bound([2, 2]), 2)
        self.assert_ratio(Mixed((1, Rule(0))).bound([]), 0)

    def test_no_lot_has_a_greater_worth(self):
        rule = Mixed((3, Weighted([5, 1, 2], 1)), (2, Listed(3, [(1, (2, 1, 0)), (1, (1,))])))
        for prices in itertools.product((0, 1, 4, 10), repeat=3):
            told = [fraction(part.best(list(prices))[1]) for _, part in rule.parts]
            self.assertEqual(fraction(rule.bound(list(prices))), (3 * told[0] + 2 * told[1]) / 5)
            self.assertLessEqual(fraction(rule.best(list(prices))[1]), fraction(rule.bound(list(prices))))

    def test_parts_of_more_than_six_things(self):
        weighted = Weighted([1] * 7, 1)
        listed = Listed(7, [(1, tuple(range(7)))])
        fields = {"many": 7, "most": 6}
        self.assert_ratio(Mixed((1, weighted), (2, Weighted([1] * 7, 7))).bound([8] * 7), 5)
        self.assert_raises(TooMany, fields, Mixed((1, weighted), (2, listed)).bound, [8] * 7)
        self.assert_raises(TooMany, fields, Mixed((1, Mixed((1, weighted)))).bound, [8] * 7)
        self.assert_raises(TooMany, fields, Mixed((1, weighted)).best, [8] * 7)

    def test_the_first_part_that_raises(self):
        weighted = Weighted([1] * 7, 1)
        listed = Listed(7, [(1, tuple(range(7)))])
        fields = {"many": 7, "most": 6}
        self.assert_number("prices", None, Mixed((1, weighted), (2, listed)).bound, [8] * 6)
        self.assert_number("prices", 6, Mixed((1, weighted), (2, listed)).bound, [8] * 6 + [-1])
        self.assert_raises(TooMany, fields, Mixed((2, listed), (1, weighted)).bound, [8] * 6)
