import itertools

from dearestshelf import rules
from dearestshelf.errors import TooMany
from dearestshelf.ratios import Ratio
from dearestshelf.rules import Rule
from tests.helper import ShelfTest, all_lots


class TwoTakers(Rule):
    """A rule with things that hinder each other, to have best lots that are not the dearest things."""

    def shares(self, lot):
        super().shares(lot)
        if len(lot) == 2:
            return [Ratio(1, 4) if thing in lot else Ratio(0) for thing in range(self.many)]
        if len(lot) == 1:
            return [Ratio(1, 2) if thing in lot else Ratio(0) for thing in range(self.many)]
        return [Ratio(0) for _ in range(self.many)]


class Told(Rule):
    """A rule by which all buyers take the told thing of some lots, and go away from all others."""

    def __init__(self, many, taken):
        super().__init__(many)
        self.taken = taken

    def shares(self, lot):
        super().shares(lot)
        return [Ratio(1) if thing == self.taken.get(lot) else Ratio(0) for thing in range(self.many)]


class RuleTest(ShelfTest):
    def test_interface(self):
        self.assert_interface(rules, {"Rule": "(many)"})
        signatures = {
            "shares": "(self, lot)",
            "away": "(self, lot)",
            "worth": "(self, lot, prices)",
            "best": "(self, prices)",
            "best_dearest": "(self, prices)",
        }
        self.assert_interface(Rule, signatures)

    def test_number_of_things(self):
        for many in (0, 1, 6, 7, 24):
            self.assertEqual(Rule(many).many, many)
        self.assert_raises(TooMany, {"many": 25, "most": 24}, Rule, 25)
        self.assert_raises(TooMany, {"many": 10**59, "most": 24}, Rule, 10**59)

    def test_nobody_takes_anything(self):
        for many in (0, 1, 3):
            for lot in all_lots(many):
                self.assert_shares(Rule(many), lot, [0] * many)
                self.assert_ratio(Rule(many).worth(lot, [5] * many), 0)
        self.assert_shares(Rule(24), tuple(range(24)), [0] * 24)

    def test_wrong_lots(self):
        for many in (0, 1, 2, 3, 24):
            self.assert_wrong_lots(Rule(many))

    def test_wrong_prices(self):
        for many in (0, 1, 2, 3, 6):
            rule = Rule(many)
            self.assert_wrong_prices(rule, rule.best, rule.best_dearest)
        self.assert_wrong_prices(Rule(24), Rule(24).best_dearest)

    def test_the_first_price_that_is_wrong(self):
        self.assert_number("prices", 1, Rule(4).best, [0, -1, 3, -5])
        self.assert_number("prices", 1, Rule(4).worth, (0,), [0, -1, 3, -5])
        self.assert_number("prices", None, Rule(4).worth, (0,), [0, -1, 3])

    def test_nobody_brings_anything(self):
        for many in (0, 1, 6):
            self.assert_best(Rule(many), [7] * many, (), 0)
            self.assert_best_dearest(Rule(many), [7] * many, 0, 0)
        self.assert_best_dearest(Rule(24), [7] * 24, 0, 0)

    def test_too_many_things_for_best(self):
        self.assert_best(Rule(6), [1] * 6, (), 0)
        for many in (7, 24):
            fields = {"many": many, "most": 6}
            self.assert_raises(TooMany, fields, Rule(many).best, [1] * many)
            self.assert_raises(TooMany, fields, Rule(many).best, [1])
            self.assert_raises(TooMany, fields, Rule(many).best, [-1] * many)
            self.assert_best_dearest(Rule(many), [1] * many, 0, 0)


class BestTest(ShelfTest):
    def test_worth(self):
        rule = TwoTakers(3)
        self.assert_ratio(rule.worth((), [5, 7, 1]), 0)
        self.assert_ratio(rule.worth((1,), [5, 7, 1]), 7, 2)
        self.assert_ratio(rule.worth((0, 1), [5, 7, 1]), 3)
        self.assert_ratio(rule.worth((0, 1, 2), [5, 7, 1]), 0)
        self.assert_ratio(rule.worth((0,), [10**18 - 1, 0, 0]), 10**18 - 1, 2)

    def test_of_several_best_lots_the_fewest_things(self):
        self.assert_best(TwoTakers(3), [6, 6, 6], (0,), 3)
        # (2,) has number 4, and (0, 1), which brings as much, has number 3.
        self.assert_best(Told(3, {(0, 1): 0, (2,): 2}), [1, 1, 1], (2,), 1)
        self.assert_best(Told(4, {(0, 1): 1, (3,): 3, (2,): 2, (0, 1, 2): 2}), [1, 1, 1, 1], (2,), 1)

    def test_of_as_many_things_the_lowest_number(self):
        # (1, 2) has number 6, and (0, 3) has number 9.
        self.assert_best(Told(4, {(0, 3): 0, (1, 2): 2}), [1, 1, 1, 1], (1, 2), 1)
        self.assert_best(Told(4, {(2, 3): 2, (1, 3): 1, (0, 3): 0}), [1, 1, 1, 1], (0, 3), 1)

    def test_of_several_best_k_the_least(self):
        rule = Told(3, {(1,): 1, (1, 2): 1, (0, 1, 2): 1})
        self.assert_best_dearest(rule, [1, 3, 2], 1, 3)
        self.assert_best_dearest(Told(3, {(0, 1): 0, (0, 1, 2): 2}), [5, 5, 5], 2, 5)
        self.assert_best_dearest(Told(3, {(2,): 2}), [5, 5, 5], 0, 0)
        self.assert_best_dearest(Told(3, {(0, 1, 2): 0}), [0, 0, 0], 0, 0)

    def test_all_prices_of_three_things(self):
        for prices in itertools.product((0, 1, 2, 7), repeat=3):
            self.assert_best_of_all_lots(TwoTakers(3), list(prices))
