import itertools
import time
from fractions import Fraction

from dearestshelf import chains as module
from dearestshelf.chains import Stepping
from dearestshelf.errors import TooMany
from dearestshelf.mixes import Mixed
from dearestshelf.ratios import Ratio
from dearestshelf.rules import Listed, Rule
from dearestshelf.tables import Tabled
from dearestshelf.weights import Weighted
from tests.helper import ShelfTest, all_lots, fraction, told_worth, written

LARGE = 10**18 - 1
THREE = ([1, 2, 1], 4, [[0, 1, 1], [2, 0, 1], [0, 0, 0]], [2, 1, 3])
RING = ([3, 1, 2, 2], 2, [[0, 5, 0, 0], [0, 0, 2, 0], [0, 1, 0, 9], [4, 0, 1, 0]], [1, 1, 2, 1])


def plain(many, number=1):
    """Return the arguments of a Stepping in which everything is alike."""
    rows = [[0 if other == thing else number for other in range(many)] for thing in range(many)]
    return [number] * many, number, rows, [number] * many


def uneven(many):
    """Return a Stepping with numbers of all sorts, some of its steps 0."""
    rows = [
        [0 if other == thing else max(0, (5 * thing + 3 * other) % 7 - 2) for other in range(many)]
        for thing in range(many)
    ]
    first = [1 + (4 * thing) % 5 for thing in range(many)]
    return Stepping(first, 3, rows, [1 + thing % 3 for thing in range(many)])


def walked(rule, lot):
    """Return the shares as floats, from following the buyers step by step."""
    looking = [number / (rule.aside + sum(rule.first)) for number in rule.first]
    shares = [0.0] * rule.many
    for _ in range(3000):
        onward = [0.0] * rule.many
        for thing, chance in enumerate(looking):
            if thing in lot:
                shares[thing] += chance
            else:
                ends = rule.leaves[thing] + sum(rule.steps[thing])
                for other, number in enumerate(rule.steps[thing]):
                    onward[other] += chance * number / ends
        looking = onward
    return shares


class SteppingTest(ShelfTest):
    def test_interface(self):
        self.assert_interface(module, {"Stepping": "(first, aside, steps, leaves)"})
        signatures = {
            "shares": "(self, lot)",
            "best": "(self, prices)",
            "thing_values": "(self, prices)",
            "like": "(rule)",
        }
        self.assert_interface(Stepping, signatures)
        self.assertIsInstance(vars(Stepping)["like"], classmethod)
        self.assertTrue(issubclass(Stepping, Rule))

    def test_fields(self):
        rule = Stepping(*THREE)
        self.assertEqual((rule.many, rule.first, rule.aside, rule.leaves), (3, (1, 2, 1), 4, (2, 1, 3)))
        self.assertEqual(rule.steps, ((0, 1, 1), (2, 0, 1), (0, 0, 0)))
        self.assertEqual({type(row) for row in rule.steps}, {tuple})

    def test_example(self):
        rule = Stepping([1, 1], 2, [[0, 1], [0, 0]], [1, 1])
        shares = rule.shares((1,))
        values = rule.thing_values([1, 10])
        self.assertEqual([str(shares[1]), *written(values)], ["3/8", "5", "10"])

    def test_shares_of_two_things_by_hand(self):
        rule = Stepping([1, 1], 2, [[0, 1], [0, 0]], [1, 1])
        self.assert_shares(rule, (), [0, 0])
        self.assert_shares(rule, (0,), ["1/4", 0])
        self.assert_shares(rule, (1,), [0, "3/8"])
        self.assert_shares(rule, (0, 1), ["1/4", "1/4"])
        rule = Stepping([1, 1], 1, [[0, 3], [1, 0]], [1, 1])
        self.assert_shares(rule, (0,), ["1/2", 0])
        self.assert_shares(rule, (1,), [0, "7/12"])

    def test_shares_of_three_things_by_hand(self):
        told = {
            (): [0, 0, 0],
            (0,): ["1/4", 0, 0],
            (1,): [0, "9/32", 0],
            # Who finds neither 0 nor 1 goes round between them: 2/7 look for 0 on average, and 9/28 for 1.
            (2,): [0, 0, "31/112"],
            (0, 1): ["1/8", "1/4", 0],
            (0, 2): ["1/4", 0, "3/16"],
            (1, 2): [0, "9/32", "5/32"],
            (0, 1, 2): ["1/8", "1/4", "1/8"],
        }
        for lot, shares in told.items():
            self.assert_shares(Stepping(*THREE), lot, shares)
        self.assert_ratio(Stepping(*THREE).worth((0, 2), [4, 99, 16]), 4)

    def test_shares_against_a_walk(self):
        for rule in (Stepping(*RING), uneven(3), uneven(5), uneven(8)):
            for lot in all_lots(rule.many)[:: 1 if rule.many < 8 else 15]:
                shares = rule.shares(lot)
                for share, told in zip(shares, walked(rule, lot), strict=True):
                    self.assertAlmostEqual(float(fraction(share)), told, places=9)
                self.assert_shares(rule, lot, [fraction(share) for share in shares])

    def test_few_things(self):
        rule = Stepping([], 1, [], [])
        self.assertEqual((rule.many, rule.first, rule.steps, rule.leaves), (0, (), (), ()))
        self.assert_shares(rule, (), [])
        self.assert_best(rule, [], (), 0)
        self.assertEqual(rule.thing_values([]), [])
        rule = Stepping([3], 1, [[0]], [2])
        self.assert_shares(rule, (), [0])
        self.assert_shares(rule, (0,), ["3/4"])
        self.assert_best(rule, [8], (0,), 6)
        self.assert_best(rule, [0], (), 0)

    def test_a_thing_more_takes_from_all_others(self):
        for rule in (Stepping(*THREE), Stepping(*RING), uneven(5)):
            for lot in all_lots(rule.many):
                before = [fraction(share) for share in rule.shares(lot)]
                for thing in set(range(rule.many)) - set(lot):
                    larger = tuple(sorted((*lot, thing)))
                    after = [fraction(share) for share in rule.shares(larger)]
                    self.assertTrue(all(after[other] <= before[other] for other in lot))
                    self.assertLessEqual(fraction(rule.away(larger)), fraction(rule.away(lot)))

    def test_great_numbers(self):
        rule = Stepping(*plain(8, LARGE))
        self.assert_shares(rule, tuple(range(8)), ["1/9"] * 8)
        self.assert_shares(rule, (3,), [Fraction(1, 2) if thing == 3 else 0 for thing in range(8)])
        small = Stepping([1, 1], 1, [[0, LARGE], [LARGE, 0]], [1, 1])
        self.assert_shares(small, (0,), [Fraction(1, 3) + Fraction(LARGE, 3 * LARGE + 3), 0])
        self.assert_shares(small, (), [0, 0])

    def test_what_was_passed_in_may_be_changed(self):
        first, aside, steps, leaves = [1, 1], 2, [[0, 1], [0, 0]], [1, 1]
        rule = Stepping(first, aside, steps, leaves)
        self.assertEqual((first, steps, leaves), ([1, 1], [[0, 1], [0, 0]], [1, 1]))
        first[0] = 50
        steps[0][1] = 50
        steps.append([])
        leaves.clear()
        self.assertEqual((rule.first, rule.steps, rule.leaves), ((1, 1), ((0, 1), (0, 0)), (1, 1)))
        self.assert_shares(rule, (1,), [0, "3/8"])
        values = rule.thing_values([1, 10])
        values.reverse()
        self.assertEqual(written(rule.thing_values([1, 10])), ["5", "10"])


class ChecksTest(ShelfTest):
    def test_number_of_things(self):
        for many in (0, 1, 8):
            self.assertEqual(Stepping(*plain(many)).many, many)
        for many in (9, 10, 25):
            self.assert_raises(TooMany, {"many": many, "most": 8}, Stepping, *plain(many))

    def test_each_check(self):
        for number in (0, -1, -LARGE):
            self.assert_number("first", 0, Stepping, [number], 1, [[0]], [1])
            self.assert_number("first", 1, Stepping, [1, number, number], 4, THREE[2], [2, 1, 3])
            self.assert_number("aside", None, Stepping, [1], number, [[0]], [1])
            self.assert_number("aside", None, Stepping, [], number, [], [])
            self.assert_number("leaves", 0, Stepping, [1], 1, [[0]], [number])
            self.assert_number("leaves", 1, Stepping, [1, 2, 1], 4, THREE[2], [2, number, number])

    def test_wrong_steps(self):
        wrong_rows = [[1], [2, 0, 1, 0], [], [2, 0, -1], [-1, 0, 1], [2, 1, 1], [2, -1, 1], [2, 0]]
        for row in wrong_rows:
            self.assert_number("steps", 1, Stepping, [1, 2, 1], 4, [[0, 1, 1], row, [0, 0, 0]], [2, 1, 3])
            self.assert_number("steps", 1, Stepping, [1, 2, 1], 4, [[0, 1, 1], row, row], [2, 1, 3])
        self.assert_number("steps", 0, Stepping, [1], 1, [[1]], [1])
        self.assert_number("steps", 0, Stepping, [1], 1, [[]], [1])
        self.assert_number("steps", 0, Stepping, [1], 1, [[0, 0]], [1])

    def test_wrong_numbers_of_rows_and_leaves(self):
        for rows in ([], THREE[2][:2], [*THREE[2], [0, 0, 0]], [[-1], [5]]):
            self.assert_number("steps", None, Stepping, [1, 2, 1], 4, rows, [2, 1, 3])
        for leaves in ([], [2, 1], [2, 1, 3, 1], [0], [0, 0, 0, 0]):
            self.assert_number("leaves", None, Stepping, [1, 2, 1], 4, THREE[2], leaves)
        self.assert_number("steps", None, Stepping, [], 1, [[]], [])
        self.assert_number("leaves", None, Stepping, [], 1, [], [1])

    def test_the_order_of_the_checks(self):
        nine = plain(9)
        # From the first check on: what is wrong in the arguments, and the error of the first one of them.
        wrong = [
            ("first", 1, {"first": [1, 0]}),
            ("aside", None, {"aside": 0}),
            ("steps", None, {"steps": [[0, 1]]}),
            ("steps", 0, {"steps": [[0, -1], [1, 0]]}),
            ("leaves", None, {"leaves": [1]}),
            ("leaves", 1, {"leaves": [1, 0]}),
        ]
        right = {"first": [1, 1], "aside": 1, "steps": [[0, 1], [1, 0]], "leaves": [1, 1]}
        for (what, at, one), (_, _, other) in itertools.combinations(wrong, 2):
            self.assert_number(what, at, Stepping, **{**right, **other, **one})
        large = dict(zip(("first", "aside", "steps", "leaves"), nine))
        for spoiled in ({"first": [0] * 9}, {"aside": 0}, {"steps": []}, {"steps": [[]] * 9}, {"leaves": []}):
            self.assert_raises(TooMany, {"many": 9, "most": 8}, Stepping, **{**large, **spoiled})

    def test_wrong_lots_and_prices(self):
        for many in (0, 1, 3, 8):
            rule = Stepping(*plain(many))
            self.assert_wrong_lots(rule)
            self.assert_wrong_prices(rule, rule.best, rule.best_dearest, rule.thing_values)


class ValuesTest(ShelfTest):
    def assert_values(self, rule, prices):
        """Check the equation of the values, and what follows from it for the best lot."""
        kept = list(prices)
        found = rule.thing_values(prices)
        self.assertIs(type(found), list)
        values = [fraction(value) for value in found]
        chances = [
            [Fraction(number, ends + sum(row)) for number in row] for row, ends in zip(rule.steps, rule.leaves)
        ]
        sums = [sum(chance * value for chance, value in zip(row, values)) for row in chances]
        self.assertEqual(values, [max(pair) for pair in zip(prices, sums)])
        lot = tuple(thing for thing in range(rule.many) if prices[thing] > sums[thing])
        worth = sum(first * value for first, value in zip(rule.first, values))
        self.assert_best(rule, prices, lot, Fraction(worth) / (rule.aside + sum(rule.first)))
        self.assertEqual(fraction(rule.best(prices)[1]), told_worth(rule, lot, prices))
        self.assertEqual(prices, kept)

    def test_values_by_hand(self):
        # From thing 0 half of the buyers go on to thing 1, from there a quarter back to thing 0.
        rule = Stepping([1, 1], 2, [[0, 1], [1, 0]], [1, 3])
        self.assertEqual(written(rule.thing_values([1, 10])), ["5", "10"])
        self.assertEqual(written(rule.thing_values([9, 2])), ["9", "9/4"])
        self.assertEqual(written(rule.thing_values([9, 3])), ["9", "3"])
        self.assert_best(rule, [1, 10], (1,), "15/4")
        self.assert_best(rule, [9, 2], (0,), "45/16")
        self.assert_best(rule, [9, 3], (0, 1), 3)

    def test_a_thing_whose_price_is_the_sum_is_left_out(self):
        rule = Stepping([1, 1], 2, [[0, 1], [1, 0]], [1, 3])
        self.assertEqual(written(rule.thing_values([5, 10])), ["5", "10"])
        self.assert_best(rule, [5, 10], (1,), "15/4")
        self.assert_best(rule, [8, 2], (0,), "5/2")

    def test_things_that_are_left_out_one_after_another(self):
        # Thing 1 is worth more than its price by thing 2, and thing 0 just by what thing 1 is worth then.
        rule = Stepping([1, 1, 1], 1, [[0, 9, 0], [0, 0, 9], [0, 0, 0]], [1, 1, 1])
        self.assertEqual(written(rule.thing_values([70, 10, 100])), ["81", "90", "100"])
        self.assert_best(rule, [70, 10, 100], (2,), "271/4")
        self.assertEqual(written(rule.thing_values([82, 10, 100])), ["82", "90", "100"])
        self.assert_best(rule, [82, 10, 100], (0, 2), 68)

    def test_all_prices_of_some_rules(self):
        for rule in (Stepping(*THREE), Stepping(*plain(3)), uneven(3)):
            for prices in itertools.product((0, 1, 2, 5, 30), repeat=3):
                self.assert_values(rule, list(prices))
                self.assert_best_of_all_lots(rule, list(prices))
        for prices in itertools.product((0, 3, 4, 9), repeat=4):
            self.assert_values(Stepping(*RING), list(prices))

    def test_best_of_all_lots(self):
        for prices in ([4, 3, 2, 1], [1, 2, 3, 4], [6, 6, 6, 6], [0, 0, 0, 0], [0, 0, 99, 0], [12, 10, 9, 3]):
            self.assert_best_of_all_lots(Stepping(*RING), prices)
            self.assert_best_of_all_lots(Stepping(*plain(4)), prices)
        for prices in ([5, 5, 5, 5, 5, 5], [8, 1, 7, 2, 6, 3], [1, 1, 1, 50, 1, 1]):
            self.assert_best_of_all_lots(uneven(6), prices)
            self.assert_values(uneven(6), prices)

    def test_seven_and_eight_things(self):
        begun = time.process_time()
        for rule in (uneven(7), uneven(8), Stepping(*plain(8, LARGE)), Stepping(*plain(7))):
            for prices in ([9, 2, 7, 4, 5, 6, 3, 8], [3] * 8, [0] * 8, [1, 1, 1, 1, LARGE, 1, 1, 1]):
                self.assert_values(rule, prices[: rule.many])
        self.assertLess(time.process_time() - begun, 20)
        self.assert_best_of_all_lots(uneven(7), [9, 2, 7, 4, 5, 6, 3])


class LikeTest(ShelfTest):
    def test_the_same_shares(self):
        for weights, aside in [([], 3), ([4], 1), ([2, 1, 3], 4), ([1, 1, 1, 1], 1), ([5, 1, 9, 2, 6], 7)]:
            rule = Weighted(weights, aside)
            found = Stepping.like(rule)
            self.assertIs(type(found), Stepping)
            for lot in all_lots(rule.many):
                self.assert_shares(found, lot, [fraction(share) for share in rule.shares(lot)])
            for prices in ([8, 3, 7, 4, 5], [6] * 5, [0] * 5):
                lot, worth = rule.best(prices[: rule.many])
                self.assert_best(found, prices[: rule.many], lot, fraction(worth))

    def test_fields(self):
        found = Stepping.like(Weighted([2, 1, 3], 4))
        self.assertEqual((found.many, found.first, found.aside, found.leaves), (3, (2, 1, 3), 4, (4, 4, 4)))
        self.assertEqual(found.steps, ((0, 1, 3), (2, 0, 3), (2, 1, 0)))

    def test_number_of_things(self):
        rule = Weighted([LARGE - thing for thing in range(8)], LARGE)
        self.assert_shares(Stepping.like(rule), (1, 4), [fraction(share) for share in rule.shares((1, 4))])
        for many in (9, 24):
            self.assert_raises(TooMany, {"many": many, "most": 8}, Stepping.like, Weighted([1] * many, 1))


class AmongOtherRulesTest(ShelfTest):
    def test_part_of_a_mixture(self):
        rule = Mixed((3, Stepping(*THREE)), (1, Listed(3, [(1, (2, 0))])))
        self.assert_shares(rule, (0,), ["7/16", 0, 0])
        self.assert_shares(rule, (0, 2), ["3/16", 0, "25/64"])
        self.assert_best_of_all_lots(rule, [9, 5, 7])
        self.assert_ratio(Mixed((1, Stepping(*plain(8)))).bound([9] * 8), 8)

    def test_table(self):
        table = Tabled.of(Stepping(*THREE))
        self.assertEqual(table.rows[4], (112, 0, 0, 31))
        for lot in all_lots(3):
            self.assertEqual(written(table.shares(lot)), written(Stepping(*THREE).shares(lot)))
        self.assert_raises(TooMany, {"many": 7, "most": 6}, Tabled.of, uneven(7))

    def test_dearest_things(self):
        rule = Stepping([1, 1], 2, [[0, 1], [1, 0]], [1, 3])
        self.assert_best_dearest(rule, [1, 10], 1, "15/4")
        self.assert_best_dearest(rule, [9, 3], 2, 3)
        self.assert_best_dearest(rule, [0, 0], 0, 0)

    def test_worths_are_ratios(self):
        self.assertIs(type(Stepping(*THREE).best([0, 0, 0])[1]), Ratio)
        self.assertIs(type(Stepping([], 1, [], []).best([])[1]), Ratio)
        self.assertIs(type(Stepping([], 1, [], []).away(())), Ratio)
