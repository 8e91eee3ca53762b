import itertools
import random
from fractions import Fraction

from dearestshelf import wishes as module
from dearestshelf.chains import Stepping
from dearestshelf.errors import BadLot, NotLists
from dearestshelf.mixes import Mixed
from dearestshelf.rules import Listed
from dearestshelf.tables import Tabled
from dearestshelf.weights import Weighted
from dearestshelf.wishes import alternating, lists_of
from tests.helper import ShelfTest, all_lots, fraction, wrong_lots, written

LARGE = 10**18 - 1
# Shares 1/4 and 1/2 of the things alone, and 1/8 and 3/8 of both.
PLAIN = Tabled(2, [[1, 0, 0], [4, 1, 0], [2, 0, 1], [8, 1, 3]])


def chain(many, told):
    """Return a Stepping with numbers by chance."""
    rows = [[told.choice((0, told.randint(0, 9))) for other in range(many)] for thing in range(many)]
    for thing in range(many):
        rows[thing][thing] = 0
    first, leaves = [[told.randint(1, 9) for _ in range(many)] for _ in range(2)]
    return Stepping(first, told.randint(1, 9), rows, leaves)


def by_number(many):
    """Return all lots in ascending order of their numbers."""
    return sorted(all_lots(many), key=lambda lot: sum(2**thing for thing in lot))


def told_sums(table):
    """Return all alternating sums as Fractions, in their order."""
    shares = {lot: [fraction(share) for share in table.shares(lot)] for lot in all_lots(table.many)}
    sums = {}
    for lot in by_number(table.many):
        for thing in (None, *lot):
            total = Fraction(0)
            for larger in shares:
                if set(lot) <= set(larger):
                    share = 1 - sum(shares[larger]) if thing is None else shares[larger][thing]
                    total += share * (-1) ** (len(larger) - len(lot))
            sums[lot, thing] = total
    return sums


class WishesTest(ShelfTest):
    def assert_lists(self, table):
        """Check that lists are found which give the table."""
        kept = (table.many, table.rows)
        found = lists_of(table)
        self.assertIs(type(found), Listed)
        self.assertEqual(found.many, table.many)
        self.assertLessEqual(len(found.wishes), 256)
        self.assertTrue(all(type(buyers) is int for buyers, _ in found.wishes))
        for lot in all_lots(table.many):
            self.assertEqual(written(found.shares(lot)), written(table.shares(lot)))
        self.assertEqual((table.many, table.rows), kept)

    def assert_no_lists(self, table, lot, thing, amount):
        """Check that the first sum below 0 is told, and that it is the sum that `alternating` gives."""
        with self.assertRaises(ValueError) as caught:
            lists_of(table)
        self.check_error(caught.exception, NotLists)
        self.assertEqual(set(vars(caught.exception)), {"lot", "thing", "amount"})
        found = caught.exception
        self.assertEqual((found.lot, type(found.lot), found.thing), (lot, tuple, thing))
        self.assertEqual(fraction(found.amount), Fraction(amount))
        self.assertEqual(fraction(alternating(table, lot, thing)), Fraction(amount))

    def assert_first_sum(self, table):
        """Check `lists_of` by all alternating sums, and say whether there are lists."""
        sums = told_sums(table)
        for (lot, thing), amount in sums.items():
            self.assertEqual(fraction(alternating(table, lot, thing)), amount)
        below = [(lot, thing) for lot, thing in sums if sums[lot, thing] < 0]
        if below:
            self.assert_no_lists(table, *below[0], sums[below[0]])
        else:
            self.assert_lists(table)
        return not below

    def test_interface(self):
        self.assert_interface(module, {"alternating": "(table, lot, thing)", "lists_of": "(table)"})


class AlternatingTest(WishesTest):
    def test_by_hand(self):
        told = {
            ((), None): Fraction(1, 4),
            ((0,), None): Fraction(1, 4),
            ((0,), 0): Fraction(1, 8),
            ((1,), None): 0,
            ((1,), 1): Fraction(1, 8),
            ((0, 1), None): Fraction(1, 2),
            ((0, 1), 0): Fraction(1, 8),
            ((0, 1), 1): Fraction(3, 8),
        }
        for (lot, thing), amount in told.items():
            self.assertEqual(fraction(alternating(PLAIN, lot, thing)), amount)
        self.assertEqual(told_sums(PLAIN), told)

    def test_three_things(self):
        table = Tabled.of(Listed(3, [(1, (2, 0)), (2, (1, 0, 2)), (3, (0,)), (4, ())]))
        told = {
            ((), None): "1/5",
            ((0,), 0): "0",
            ((0, 1), 0): "1/10",
            ((1,), None): "1/10",
            ((0, 2), 0): "1/5",
            ((1, 2), None): "3/10",
            ((0, 1, 2), None): "2/5",
            ((0, 1, 2), 1): "1/5",
            ((2,), 2): "1/5",
        }
        for (lot, thing), amount in told.items():
            self.assertEqual(str(alternating(table, lot, thing)), amount)

    def test_against_the_sum(self):
        told = random.Random(28)
        for many in (0, 1, 2, 3, 4):
            rows = []
            for number in range(1 << many):
                counts = [told.randint(0, 9) if number >> thing & 1 else 0 for thing in range(many)]
                rows.append([sum(counts) + told.randint(1, 9), *counts])
            table = Tabled(many, rows)
            for (lot, thing), amount in told_sums(table).items():
                self.assertEqual(fraction(alternating(table, lot, thing)), amount)

    def test_without_things(self):
        self.assert_ratio(alternating(Tabled(0, [[5]]), (), None), 1)

    def test_what_is_no_lot(self):
        for many in (0, 1, 2, 3, 6):
            table = Tabled.of(Weighted([1] * many, 1))
            for lot in wrong_lots(many):
                self.assert_raises(BadLot, {}, alternating, table, lot, None)
                self.assert_raises(BadLot, {}, alternating, table, lot, lot[0])


class ListsTest(WishesTest):
    def test_few_things(self):
        self.assert_lists(Tabled(0, [[1]]))
        self.assert_lists(Tabled(1, [[1, 0], [3, 2]]))
        self.assert_lists(Tabled(1, [[1, 0], [1, 0]]))
        self.assert_lists(Tabled(1, [[1, 0], [1, 1]]))
        self.assert_lists(PLAIN)
        self.assertEqual([things for _, things in lists_of(Tabled(0, [[1]])).wishes], [()])

    def test_tables_of_rules_that_have_lists(self):
        told = random.Random(29)
        for many in (1, 2, 3, 4, 5, 6):
            wishes = [(told.randint(1, 9), tuple(told.sample(range(many), told.randint(0, many)))) for _ in range(20)]
            weighted = Weighted([told.randint(1, 9) for _ in range(many)], told.randint(1, 9))
            listed = Listed(many, wishes)
            stepping = chain(many, told)
            mixture = Mixed((2, weighted), (3, Mixed((1, listed), (5, stepping))))
            for rule in (weighted, listed, stepping, mixture):
                self.assert_lists(Tabled.of(rule))

    def test_all_lists_of_one_buyer(self):
        for size in range(4):
            for things in itertools.permutations(range(3), size):
                found = lists_of(Tabled.of(Listed(3, [(5, things)])))
                self.assertEqual([told for _, told in found.wishes], [things])

    def test_great_numbers_and_many_lists(self):
        rule = Weighted([LARGE - thing for thing in range(6)], LARGE - 9)
        self.assert_lists(Tabled.of(rule))
        self.assertGreater(len(lists_of(Tabled.of(rule)).wishes), 64)
        everything = [(1, things) for size in range(7) for things in itertools.permutations(range(6), size)]
        self.assert_lists(Tabled.of(Listed(6, everything)))

    def test_a_change_of_the_found_rule_has_no_effect(self):
        table = Tabled.of(Weighted([2, 1], 1))
        found = lists_of(table)
        found.wishes = ()
        self.assert_lists(table)


class NoListsTest(WishesTest):
    def test_by_hand(self):
        # Thing 1 alone takes all buyers, and beside thing 0 none.
        self.assert_no_lists(Tabled(2, [[1, 0, 0], [1, 0, 0], [1, 0, 1], [1, 0, 0]]), (1,), None, -1)
        # Thing 0 is taken more often beside thing 1 than alone.
        self.assert_no_lists(Tabled(2, [[1, 0, 0], [4, 1, 0], [2, 0, 1], [2, 1, 0]]), (0,), 0, "-1/4")
        # Neither thing alone is taken, but both together.
        self.assert_no_lists(Tabled(2, [[1, 0, 0], [1, 0, 0], [1, 0, 0], [2, 1, 0]]), (), None, "-1/2")
        # All buyers take each thing alone, but nobody takes one of both.
        self.assert_no_lists(Tabled(2, [[1, 0, 0], [1, 1, 0], [1, 0, 1], [1, 0, 0]]), (0,), None, -1)
        # Thing 1 alone takes three quarters of the buyers, and beside thing 0 more of them go away.
        self.assert_no_lists(Tabled(2, [[1, 0, 0], [2, 1, 0], [4, 0, 3], [8, 4, 1]]), (1,), None, "-1/8")
        # Half of the buyers take each thing alone, and with both all go away.
        self.assert_no_lists(Tabled(2, [[1, 0, 0], [2, 1, 0], [2, 0, 1], [2, 0, 0]]), (0,), None, "-1/2")

    def test_the_first_sum_below_0(self):
        told = random.Random(30)
        found = {True: [], False: []}
        for _ in range(400):
            many = told.choice((2, 3, 3, 3, 4))
            wishes = [tuple(told.sample(range(many), told.randint(0, many))) for _ in range(told.randint(5, 60))]
            rows = [list(row) for row in Tabled.of(Listed(many, [(12, things) for things in wishes])).rows]
            for _ in range(told.randint(1, 3)):
                number = told.randrange(1, 1 << many)
                row = [12 * item for item in rows[number]]
                things = [thing for thing in range(many) if number >> thing & 1]
                row[1 + told.choice(things)] += told.randint(-6, 6)
                if min(row) >= 0 and sum(row[1:]) <= row[0]:
                    rows[number] = row
            table = Tabled(many, rows)
            found[self.assert_first_sum(table)].append(told_sums(table))
        self.assertGreater(min(len(found[True]), len(found[False])), 20)
        firsts = [[step for step, amount in sums.items() if amount < 0] for sums in found[False]]
        # Some tables tell the order: lots by their numbers, for each lot None first.
        self.assertTrue(any(steps[0][0] == (0, 1) and (2,) in [lot for lot, _ in steps] for steps in firsts))
        rests = [[thing for lot, thing in steps if lot == steps[0][0]] for steps in firsts]
        self.assertTrue(any(len(things) > 1 and things[0] is None for things in rests))

    def test_of_the_things_of_a_lot_the_first_one(self):
        # Things 0 and 1 are taken more often if thing 2 is there, too.
        rows = {(): [1, 0, 0, 0], (0,): [2, 1, 0, 0], (1,): [2, 0, 1, 0], (2,): [2, 0, 0, 1], (0, 1): [4, 1, 1, 0]}
        rows = {**rows, (0, 2): [2, 1, 0, 1], (1, 2): [2, 0, 1, 1], (0, 1, 2): [2, 1, 1, 0]}
        table = Tabled(3, [rows[lot] for lot in by_number(3)])
        below = [step for step, amount in told_sums(table).items() if amount < 0]
        self.assertEqual(below[:2], [((0, 1), 0), ((0, 1), 1)])
        self.assert_no_lists(table, (0, 1), 0, "-1/4")
