import itertools
import random
from fractions import Fraction

from dearestshelf import allprices as module
from dearestshelf.allprices import Shortfall, least_example, shortfall
from dearestshelf.chains import Stepping
from dearestshelf.errors import BadLot, TooMany
from dearestshelf.mixes import Mixed
from dearestshelf.rules import Listed, Rule
from dearestshelf.tables import Tabled
from dearestshelf.weights import Weighted
from tests.helper import ShelfTest, all_lots, fraction, wrong_lots, written

LARGE = 10**18 - 1
EXAMPLE = Tabled(2, [[1, 0, 0], [1, 0, 0], [1, 0, 1], [1, 0, 0]])
CHAIN = Stepping([1, 2, 1], 4, [[0, 1, 1], [2, 0, 1], [0, 0, 0]], [2, 1, 3])
LISTS = Listed(4, [(2, (1, 0)), (1, (0,)), (3, (3, 2, 1)), (1, (2, 0))])


def tabled(many, told):
    """Return the table with the told shares, pairs of a thing and a share for some lots, and 0 for all others."""
    rows = []
    for number in range(1 << many):
        lot = tuple(thing for thing in range(many) if number >> thing & 1)
        shares = dict(told.get(lot, []))
        rows.append([60, *[int(60 * Fraction(shares.get(thing, 0))) for thing in range(many)]])
    return Tabled(many, rows)


def chance_table(many, told):
    rows = []
    for number in range(1 << many):
        counts = [told.randint(0, 6) if number >> thing & 1 else 0 for thing in range(many)]
        rows.append([sum(counts) + told.randint(1, 3), *counts])
    return Tabled(many, rows)


def lots_of(things):
    lots = [lot for size in range(len(things) + 1) for lot in itertools.combinations(things, size)]
    return sorted(lots, key=lambda lot: sum(2**thing for thing in lot))


def shares_of(rule, among):
    """Return the shares of the lots of some things, as Fractions of just the things that are taken."""
    told = {lot: [fraction(share) for share in rule.shares(lot)] for lot in lots_of(among)}
    return {lot: [(thing, shares[thing]) for thing in lot] for lot, shares in told.items()}


def worth(shares, lot, prices):
    return sum(share * prices[thing] for thing, share in shares[lot])


def dearest_worths(shares, order, prices):
    return [worth(shares, tuple(sorted(order[:k])), prices) for k in range(len(order) + 1)]


def grid(order, many, parts):
    """Return prices of all things that fit the order, in steps of 1 over `parts`."""
    for falling in itertools.combinations_with_replacement(range(parts, -1, -1), len(order)):
        prices = [Fraction(0)] * many
        for thing, price in zip(order, falling):
            prices[thing] = Fraction(price, parts)
        yield prices


class AllPricesTest(ShelfTest):
    def mix(self, found, order, lot):
        """Return the mix of an order and a lot, after a look at its kinds."""
        mix = found.mix(order, lot)
        self.assertIs(type(mix), list)
        self.assertEqual(len(mix), len(order) + 1)
        mix = [fraction(part) for part in mix]
        self.assertGreaterEqual(min(mix), 0)
        self.assertEqual(sum(mix), 1)
        return mix

    def greatest_loss(self, shares, found, order, lot):
        """Return a bound of the loss of an order and a lot, which the mix proves.

        The prices that fit are mixtures of those that are 1 for the first things and 0 for the others, so the
        bound holds for all prices if it holds for these.
        """
        mix = self.mix(found, order, lot)
        losses = []
        for step in range(len(order) + 1):
            prices = {thing: 1 if thing in order[:step] else 0 for thing in order}
            ladder = dearest_worths(shares, order, prices)
            losses.append(worth(shares, lot, prices) - sum(part * told for part, told in zip(mix, ladder)))
        return max(losses)

    def assert_shortfall(self, rule, found, among):
        """Check all fields: the loss is reached at the prices, and the mixes prove that none is greater.

        The mixes also prove which order and lot are the first ones, as each of them is the best one of its pair.
        """
        self.assertIs(type(found), Shortfall)
        self.assertLessEqual({"among", "loss", "order", "lot", "prices"}, set(vars(found)))
        self.assertEqual((found.among, type(found.among)), (among, tuple))
        loss = fraction(found.loss)
        shares = shares_of(rule, among)
        pairs = [(order, lot) for order in itertools.permutations(among) for lot in lots_of(among)]
        first = None
        for order, lot in pairs:
            bound = self.greatest_loss(shares, found, order, lot)
            self.assertLessEqual(bound, loss)
            if bound == loss and first is None:
                first = (order, lot)
        if loss == 0:
            self.assertEqual((found.order, found.lot, found.prices), (None, None, None))
            return
        self.assertEqual((found.order, found.lot), first)
        self.assertEqual({type(found.order), type(found.lot), type(found.prices)}, {tuple})
        prices = [fraction(price) for price in found.prices]
        self.assertEqual(len(prices), rule.many)
        self.assertTrue(all(price == 0 for thing, price in enumerate(prices) if thing not in among))
        falling = [1, *[prices[thing] for thing in found.order], 0]
        self.assertEqual(falling, sorted(falling, reverse=True))
        self.assertEqual(worth(shares, found.lot, prices) - max(dearest_worths(shares, found.order, prices)), loss)

    def assert_each(self, rule, most=4):
        """Check the Shortfall of each lot of at most so many things of a rule."""
        for among in all_lots(rule.many):
            if len(among) <= most:
                self.assert_shortfall(rule, shortfall(rule, among=among), among)
        if rule.many <= most:
            self.assert_shortfall(rule, shortfall(rule), tuple(range(rule.many)))


class ShortfallTest(AllPricesTest):
    def test_interface(self):
        signatures = {"shortfall": "(rule, *, among=None)", "least_example": "(rule)"}
        self.assert_interface(module, signatures)
        self.assert_interface(Shortfall, {"mix": "(self, order, lot)"})
        self.assertEqual(Shortfall.__module__, module.__name__)

    def test_example(self):
        found = shortfall(EXAMPLE)
        told = [str(found.loss), found.order, found.lot, str(found.prices[0]), str(found.prices[1])]
        self.assertEqual(told, ["1", (0, 1), (1,), "1", "1"])
        self.assert_shortfall(EXAMPLE, found, (0, 1))

    def test_by_hand(self):
        # Thing 0 alone brings as much as thing 1 alone.
        rule = tabled(2, {(0,): [(0, "1/2")], (1,): [(1, "1/2")], (0, 1): [(0, "1/2")]})
        self.assert_ratio(shortfall(rule).loss, 0)
        # Thing 1 alone brings 1/2 b, against 1/3 a: at equal prices it is 1/6 more.
        rule = tabled(2, {(0,): [(0, "1/3")], (1,): [(1, "1/2")], (0, 1): [(0, "1/3")]})
        found = shortfall(rule)
        self.assertEqual([str(found.loss), found.order, found.lot], ["1/6", (0, 1), (1,)])
        self.assertEqual(written(found.prices), ["1", "1"])
        # Thing 1 alone brings 1/2 b: against 3/10 a and 1/10 a + 2/5 b this is no loss, as b is no greater than a.
        rule = tabled(2, {(0,): [(0, "3/10")], (1,): [(1, "1/2")], (0, 1): [(0, "1/10"), (1, "2/5")]})
        self.assert_ratio(shortfall(rule).loss, 0)
        rule = tabled(2, {(0,): [(0, "3/10")], (1,): [(1, "1/2")], (0, 1): [(0, "1/10"), (1, "1/5")]})
        self.assert_ratio(shortfall(rule).loss, 1, 5)

    def test_prices_between(self):
        # With prices a, b, c the lot (0, 2) brings (a + c) / 2, and the dearest ones a / 2, b / 2 and (b + c) / 2:
        # at a = 1 the loss is greatest where a is b + c, and b is no greater than it must be.
        rule = Listed(3, [(1, (1, 0)), (1, (2,))])
        found = shortfall(rule)
        self.assertEqual([str(found.loss), found.order, found.lot], ["1/4", (0, 1, 2), (0, 2)])
        self.assertEqual(written(found.prices), ["1", "1/2", "1/2"])
        self.assert_shortfall(rule, found, (0, 1, 2))

    def test_each_kind_of_rule(self):
        table = chance_table(4, random.Random(25))
        mixture = Mixed((2, LISTS), (1, Weighted([5, 1, 2, 3], 1)), (1, table))
        for rule in (Rule(0), Rule(3), EXAMPLE, CHAIN, LISTS, table, mixture):
            self.assert_each(rule)

    def test_weights_lose_nothing(self):
        for rule in (Weighted([5, 1, 2, 3], 1), Weighted([LARGE, 1, LARGE - 1], 7), Weighted([], 1), Weighted([2], 9)):
            found = shortfall(rule)
            self.assert_ratio(found.loss, 0)
            self.assert_each(rule)
            self.assertIs(least_example(rule), None)
        self.assert_each(Stepping.like(Weighted([5, 1, 2], 3)))

    def test_lists_of_two_things_lose_nothing(self):
        for wishes in ([(1, (1,)), (1, (1, 0)), (1, (0,))], [(5, (1, 0)), (2, (0, 1))], [(1, (1,))]):
            self.assert_ratio(shortfall(Listed(2, wishes)).loss, 0)
        rule = Listed(3, [(1, (2, 0)), (1, (2, 1, 0)), (1, (1, 0))])
        self.assert_shortfall(rule, shortfall(rule), (0, 1, 2))

    def test_no_prices_and_orders_lose_more(self):
        told = random.Random(26)
        sparse = tabled(3, {(1, 2): [(1, 1)], (0,): [(0, "1/2")]})
        for rule in (chance_table(3, told), chance_table(3, told), CHAIN, sparse):
            loss = fraction(shortfall(rule).loss)
            shares = shares_of(rule, (0, 1, 2))
            for order in itertools.permutations(range(3)):
                for prices in grid(order, 3, 5):
                    greatest = max(worth(shares, lot, prices) for lot in shares)
                    self.assertLessEqual(greatest - max(dearest_worths(shares, order, prices)), loss)

    def test_mixes_at_many_prices(self):
        told = random.Random(27)
        for rule in (chance_table(3, told), CHAIN, EXAMPLE, Weighted([3, 1, 2], 2)):
            found = shortfall(rule)
            shares = shares_of(rule, tuple(range(rule.many)))
            for order in itertools.permutations(range(rule.many)):
                for lot in shares:
                    mix = self.mix(found, order, lot)
                    for prices in grid(order, rule.many, 4):
                        mean = sum(part * one for part, one in zip(mix, dearest_worths(shares, order, prices)))
                        self.assertLessEqual(worth(shares, lot, prices) - mean, fraction(found.loss))

    def test_of_several_the_first_order_and_the_lowest_lot(self):
        # The lots (1,) and (2,) bring everything, and no lot of another number of things brings anything.
        rule = tabled(3, {(1,): [(1, 1)], (2,): [(2, 1)]})
        found = shortfall(rule)
        self.assertEqual([str(found.loss), found.order, found.lot], ["1", (0, 1, 2), (1,)])
        rule = tabled(3, {(0,): [(0, 1)], (1,): [(1, 1)]})
        found = shortfall(rule)
        self.assertEqual([str(found.loss), found.order, found.lot], ["1", (2, 0, 1), (0,)])
        # (0, 1) has number 3 and (2,) number 4; as tuples (2,) and (0, 3) stand the other way round.
        rule = tabled(4, {(2,): [(2, 1)], (0, 3): [(0, 1)]})
        found = shortfall(rule)
        self.assertEqual([str(found.loss), found.order, found.lot], ["1", (0, 1, 2, 3), (2,)])
        found = shortfall(rule, among=(0, 3))
        self.assert_ratio(found.loss, 0)

    def test_some_things_of_many(self):
        wishes = [(1, (thing, (thing * 5 + 1) % 24, 23)) for thing in range(1, 19) if (thing * 5 + 1) % 24 != 23]
        rule = Listed(24, wishes)
        for among in [(), (0,), (23,), (4, 21), (1, 6, 23), (2, 3, 11, 23)]:
            self.assert_shortfall(rule, shortfall(rule, among=among), among)
        found = shortfall(EXAMPLE, among=(1,))
        self.assertEqual((found.among, found.order, found.lot, found.prices), ((1,), None, None, None))
        rule = tabled(4, {(3,): [(3, 1)]})
        found = shortfall(rule, among=(1, 3))
        self.assertEqual((found.order, found.lot, written(found.prices)), ((1, 3), (3,), ["0", "1", "0", "1"]))

    def test_number_of_things(self):
        for rule in (Rule(5), Weighted([1] * 24, 1), Listed(7, [(1, (0,))])):
            many = rule.many
            self.assert_raises(TooMany, {"many": many, "most": 4}, shortfall, rule)
            self.assert_raises(TooMany, {"many": many, "most": 4}, shortfall, rule, among=None)
            self.assert_raises(TooMany, {"many": 5, "most": 4}, shortfall, rule, among=(0, 1, 2, 3, 4))
            self.assert_shortfall(rule, shortfall(rule, among=(0, 1, 2, 4)), (0, 1, 2, 4))

    def test_what_is_no_lot(self):
        for many in (0, 2, 4, 5, 24):
            for among in wrong_lots(many):
                self.assert_raises(BadLot, {}, shortfall, Rule(many), among=among)
        for among in [(0, 0, 1, 2, 3, 4), (0, 1, 2, 3, 5), (4, 3, 2, 1, 0), (-1, 0, 1, 2, 3)]:
            self.assert_raises(BadLot, {}, shortfall, Rule(5), among=among)

    def test_great_numbers(self):
        rule = Listed(4, [(LARGE, (3, 0)), (LARGE - 1, (2, 1)), (1, (1, 3, 2)), (LARGE // 3, (0, 1, 2, 3))])
        self.assert_shortfall(rule, shortfall(rule), (0, 1, 2, 3))

    def test_what_was_returned_may_be_changed(self):
        found = shortfall(EXAMPLE)
        told = written(found.mix((0, 1), (1,)))
        found.mix((0, 1), (1,))[0].top = 5
        found.mix((0, 1), (1,)).clear()
        self.assertEqual(written(found.mix((0, 1), (1,))), told)


class LeastExampleTest(AllPricesTest):
    def assert_least(self, rule, among, loss):
        found = least_example(rule)
        self.assert_shortfall(rule, found, among)
        self.assert_ratio(found.loss, *loss)
        # `sorted` keeps the order of the numbers where the lengths are equal.
        all_in_order = sorted(lots_of(range(rule.many)), key=len)
        for other in all_in_order[: all_in_order.index(among)]:
            self.assert_ratio(shortfall(rule, among=other).loss, 0)

    def test_no_example(self):
        for rule in (Rule(0), Rule(4), Weighted([2, 1, 3, 9], 4), Stepping.like(Weighted([1, 2, 3], 4))):
            self.assertIs(least_example(rule), None)

    def test_two_things(self):
        self.assert_least(EXAMPLE, (0, 1), (1,))
        self.assert_least(tabled(3, {(2,): [(2, 1)], (0, 1): [(0, 1)]}), (0, 2), (1,))

    def test_three_things_alone(self):
        # Like weights of 1, but with the lot (0, 1) and with all things nothing is taken.
        half, third = Fraction(1, 2), Fraction(1, 3)
        shares = {(thing,): [(thing, half)] for thing in range(3)}
        shares = {**shares, (0, 2): [(0, third), (2, third)], (1, 2): [(1, third), (2, third)]}
        rule = tabled(3, shares)
        self.assert_least(rule, (0, 1, 2), (1, 6))
        found = least_example(rule)
        self.assertEqual((found.order, found.lot), ((0, 1, 2), (0, 2)))
        # The two things 0 and 3 are fewer, though their lot has the greater number, 9 and not 7.
        rule = tabled(4, {**shares, (3,): [(3, 1)]})
        self.assertGreater(fraction(shortfall(rule, among=(0, 1, 2)).loss), 0)
        self.assert_least(rule, (0, 3), (1, 2))

    def test_of_several_the_lowest_number(self):
        # (1, 2) has number 6, and (0, 3) has number 9.
        half = Fraction(1, 2)
        shares = {(0,): [(0, 1)], (2,): [(2, half)], (0, 1): [(0, 1)], (0, 2): [(0, 1)], (2, 3): [(2, half)]}
        rule = tabled(4, shares)
        losing = [lot for lot in itertools.combinations(range(4), 2) if shortfall(rule, among=lot).loss > 0]
        self.assertEqual(losing, [(0, 3), (1, 2)])
        self.assert_least(rule, (1, 2), (1, 2))
        self.assert_least(tabled(3, {(2,): [(2, 1)]}), (0, 2), (1,))

    def test_number_of_things(self):
        for rule in (Rule(5), Weighted([1] * 24, 1)):
            self.assert_raises(TooMany, {"many": rule.many, "most": 4}, least_example, rule)
