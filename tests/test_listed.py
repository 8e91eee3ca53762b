import itertools
from fractions import Fraction

from dearestshelf import rules
from dearestshelf.errors import BadLot, BadWish, NoBuyers, TooMany
from dearestshelf.rules import Listed, Rule, Wish
from tests.helper import ShelfTest, all_lots


class WishTest(ShelfTest):
    def test_interface(self):
        self.assert_interface(rules, {"Wish": "(things)"})
        self.assert_interface(Wish, {"__call__": "(self, lot)"})

    def test_the_first_thing_that_is_in_the_lot(self):
        wish = Wish((4, 0, 2))
        self.assertEqual(wish.things, (4, 0, 2))
        self.assertEqual([wish(lot) for lot in [(0, 2, 4), (0, 2), (2, 3), (1, 3)]], [4, 0, 2, None])
        self.assertIs(wish(()), None)

    def test_the_empty_list(self):
        self.assertEqual(Wish(()).things, ())
        self.assertIs(Wish(())((0, 1)), None)

    def test_things_of_any_size(self):
        self.assertEqual(Wish((10**59, 0))((0, 10**59)), 10**59)

    def test_the_lot_is_not_checked(self):
        self.assertEqual(Wish((1, 2))((2, 1, 1, -5, 99)), 1)

    def test_bad_wishes(self):
        for things in [(-1,), (0, -1), (0, 0), (1, 2, 1), (-1, -1), (5, 3, 4, 3)]:
            self.assert_raises(BadWish, {"at": None}, Wish, things)


class ListedTest(ShelfTest):
    def test_interface(self):
        self.assert_interface(rules, {"Listed": "(many, wishes)"})
        self.assert_interface(Listed, {"shares": "(self, lot)"})
        self.assertTrue(issubclass(Listed, Rule))

    def test_shares_by_hand(self):
        rule = Listed(3, [(3, (0, 1)), (2, (2,)), (1, ()), (4, (1, 2, 0))])
        self.assertEqual(rule.many, 3)
        self.assertEqual(rule.wishes, ((3, (0, 1)), (2, (2,)), (1, ()), (4, (1, 2, 0))))
        told = {
            (): [0, 0, 0],
            (0,): ["7/10", 0, 0],
            (1,): [0, "7/10", 0],
            (0, 1): ["3/10", "4/10", 0],
            (2,): [0, 0, "6/10"],
            (0, 2): ["3/10", 0, "6/10"],
            (1, 2): [0, "7/10", "2/10"],
            (0, 1, 2): ["3/10", "4/10", "2/10"],
        }
        for lot, shares in told.items():
            self.assert_shares(rule, lot, shares)
        self.assert_ratio(rule.worth((0, 2), [10, 3, 5]), 6)

    def test_few_things(self):
        nothing = Listed(0, [(5, ()), (1, ())])
        self.assert_shares(nothing, (), [])
        self.assert_best(nothing, [], (), 0)
        one = Listed(1, [(2, (0,))])
        self.assert_shares(one, (), [0])
        self.assert_shares(one, (0,), [1])
        self.assert_best(one, [4], (0,), 4)
        self.assert_shares(Listed(2, [(1, ()), (2, ())]), (0, 1), [0, 0])

    def test_most_things(self):
        rule = Listed(24, [(1, tuple(range(23, -1, -1))), (1, (0,))])
        self.assert_shares(rule, (0, 5, 20), [Fraction(thing in (0, 20), 2) for thing in range(24)])
        self.assert_best_dearest(rule, [3, 4] + [1] * 22, 2, Fraction(7, 2))
        self.assert_raises(TooMany, {"many": 24, "most": 6}, rule.best, [1] * 24)

    def test_checks_in_their_order(self):
        fields = {"many": 25, "most": 24}
        self.assert_raises(TooMany, fields, Listed, 25, [(1, ())])
        self.assert_raises(TooMany, fields, Listed, 25, [])
        self.assert_raises(TooMany, fields, Listed, 25, [(0, (99, 99))])
        self.assert_raises(NoBuyers, {}, Listed, 2, [])
        self.assert_number("buyers", 0, Listed, 2, [(0, ())])
        self.assert_number("buyers", 1, Listed, 2, [(1, ()), (-3, (0,)), (0, ())])
        self.assert_number("buyers", 0, Listed, 2, [(0, (2,))])
        self.assert_number("buyers", 1, Listed, 2, [(1, (0,)), (0, (1,)), (1, (2,))])
        self.assert_raises(BadWish, {"at": 0}, Listed, 2, [(1, (2,)), (0, (0,))])

    def test_bad_wishes(self):
        for things in [(2,), (0, 1, 2), (-1,), (0, 0), (1, 0, 1), (0, -1), (10**59,)]:
            self.assert_raises(BadWish, {"at": 0}, Listed, 2, [(1, things), (1, (9,))])
            self.assert_raises(BadWish, {"at": 1}, Listed, 2, [(1, (1, 0)), (1, things)])
        self.assert_raises(BadWish, {"at": 0}, Listed, 0, [(1, (0,))])

    def test_wrong_lots_and_prices(self):
        for many in (0, 1, 3):
            rule = Listed(many, [(1, ()), (2, tuple(range(many)))])
            self.assert_wrong_lots(rule)
            self.assert_wrong_prices(rule, rule.best, rule.best_dearest)
        self.assert_raises(BadLot, {}, Listed(2, [(1, (0, 1))]).shares, (1, 0))

    def test_a_list_that_was_passed_in_may_be_changed(self):
        wishes = [(1, (0,)), (1, (1,))]
        rule = Listed(2, wishes)
        self.assertEqual(wishes, [(1, (0,)), (1, (1,))])
        wishes[0] = (5, ())
        wishes.append((9, (1,)))
        self.assertEqual(rule.wishes, ((1, (0,)), (1, (1,))))
        self.assert_shares(rule, (0, 1), ["1/2", "1/2"])

    def test_many_buyers(self):
        rule = Listed(1, [(10**18 - 1, (0,)), (1, ())])
        self.assert_shares(rule, (0,), [Fraction(10**18 - 1, 10**18)])

    def test_best_of_all_lots(self):
        rule = Listed(3, [(3, (0, 1)), (2, (2,)), (1, ()), (4, (1, 2, 0))])
        for prices in itertools.product((0, 1, 3, 10), repeat=3):
            self.assert_best_of_all_lots(rule, list(prices))
        six = Listed(6, [(1, (0, 5, 3)), (2, (4, 1)), (2, (2, 3, 4)), (1, (5,))])
        self.assert_best_of_all_lots(six, [10, 0, 7, 9, 20, 3])
        self.assert_best_of_all_lots(six, [5] * 6)

    def test_the_dearest_things_may_be_worse(self):
        # The buyer who takes thing 0 takes the cheaper thing 1 if it stands there, so it is better left out.
        rule = Listed(3, [(1, (1, 0)), (1, (2,))])
        self.assert_best(rule, [10, 6, 2], (0, 2), 6)
        self.assert_best_dearest(rule, [10, 6, 2], 1, 5)

    def test_the_shares_are_those_of_the_wishes(self):
        wishes = [(2, (3, 1)), (5, (0, 2, 1)), (1, ())]
        rule = Listed(4, wishes)
        for lot in all_lots(4):
            taken = [(buyers, Wish(things)(lot)) for buyers, things in wishes]
            told = [sum(Fraction(buyers, 8) for buyers, at in taken if at == thing) for thing in range(4)]
            self.assert_shares(rule, lot, told)
