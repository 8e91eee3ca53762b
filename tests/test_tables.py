import itertools
from fractions import Fraction

from dearestshelf import tables
from dearestshelf.errors import BadTable, TooMany
from dearestshelf.mixes import Mixed
from dearestshelf.rules import Listed, Rule
from dearestshelf.tables import Tabled
from dearestshelf.weights import Weighted
from tests.helper import ShelfTest, all_lots, written

ROWS = [[1, 0, 0], [3, 1, 0], [2, 0, 1], [4, 1, 2]]


def table_rows(many):
    """Return rows by which nobody takes anything."""
    return [[1] + [0] * many for _ in range(2**many)]


class TabledTest(ShelfTest):
    def test_interface(self):
        self.assert_interface(tables, {"Tabled": "(many, rows)"})
        signatures = {"shares": "(self, lot)", "__eq__": "(self, other)", "of": "(rule)"}
        self.assert_interface(Tabled, signatures)
        self.assertIsInstance(vars(Tabled)["of"], classmethod)
        self.assertTrue(issubclass(Tabled, Rule))

    def test_shares_by_hand(self):
        rule = Tabled(2, ROWS)
        self.assertEqual(rule.many, 2)
        self.assert_shares(rule, (), [0, 0])
        self.assert_shares(rule, (0,), ["1/3", 0])
        self.assert_shares(rule, (1,), [0, "1/2"])
        self.assert_shares(rule, (0, 1), ["1/4", "1/2"])
        self.assert_ratio(rule.worth((0, 1), [8, 6]), 5)

    def test_few_and_most_things(self):
        self.assert_shares(Tabled(0, [[7]]), (), [])
        self.assertEqual(Tabled(0, [[7]]).rows, ((1,),))
        self.assert_best(Tabled(0, [[7]]), [], (), 0)
        self.assert_shares(Tabled(1, [[1, 0], [1, 1]]), (0,), [1])
        rows = table_rows(6)
        rows[63] = [6, 1, 1, 1, 1, 1, 1]
        self.assert_shares(Tabled(6, rows), (0, 1, 2, 3, 4, 5), ["1/6"] * 6)
        self.assert_best(Tabled(6, rows), [6, 12, 0, 0, 0, 0], (0, 1, 2, 3, 4, 5), 3)

    def test_rows_are_divided(self):
        rows = [[5, 0, 0], [6, 4, 0], [6, 0, 5], [12, 4, 8]]
        rule = Tabled(2, rows)
        self.assertEqual(rule.rows, ((1, 0, 0), (3, 2, 0), (6, 0, 5), (3, 1, 2)))
        self.assertTrue(all(type(row) is tuple for row in rule.rows))
        self.assertEqual(rows, [[5, 0, 0], [6, 4, 0], [6, 0, 5], [12, 4, 8]])
        large = 10**18 - 1
        self.assertEqual(Tabled(1, [[large, 0], [large, large]]).rows, ((1, 0), (1, 1)))

    def test_a_list_that_was_passed_in_may_be_changed(self):
        rows = [list(row) for row in ROWS]
        rule = Tabled(2, rows)
        self.assertEqual(rows, ROWS)
        rows[1][1] = 3
        rows[3] = [1, 0, 0]
        rows.append([])
        self.assert_shares(rule, (0,), ["1/3", 0])
        self.assert_shares(rule, (0, 1), ["1/4", "1/2"])

    def test_too_many_things(self):
        for many in (7, 8, 24):
            fields = {"many": many, "most": 6}
            self.assert_raises(TooMany, fields, Tabled, many, [])
            self.assert_raises(TooMany, fields, Tabled.of, Rule(many))
        self.assert_raises(TooMany, {"many": 25, "most": 6}, Tabled, 25, [])
        self.assert_raises(TooMany, {"many": 7, "most": 6}, Tabled, 7, table_rows(7))
        self.assert_raises(TooMany, {"many": 7, "most": 6}, Tabled, 7, [[0]])

    def test_number_of_rows(self):
        for rows in ([], ROWS[:3], ROWS + [[1, 0, 0]], [[0]]):
            self.assert_raises(BadTable, {"at": None}, Tabled, 2, rows)
        self.assert_raises(BadTable, {"at": None}, Tabled, 0, [])
        self.assert_raises(BadTable, {"at": None}, Tabled, 6, table_rows(6)[1:])

    def test_bad_rows(self):
        wrong = {
            0: [[], [1, 0], [1, 0, 0, 0], [0, 0, 0], [-1, 0, 0], [1, 1, 0], [1, 0, 1], [1, -1, 0], [2, -1, 1]],
            1: [[1, 0], [1, 1], [0, 0, 0], [-2, -1, 0], [3, -1, 0], [3, 0, 1], [3, 0, -1], [3, 4, 0], [1, 0, 0, 0]],
            2: [[2], [0, 0, 0], [2, 1, 0], [2, -1, 1], [2, 0, 3], [2, 1, 1], [2, 0, -2]],
            3: [[1, 1], [4, 1, 2, 0], [0, 0, 0], [4, 2, 3], [4, 5, -1], [4, -1, 5], [-4, 1, 1], [4, 4, 4]],
        }
        for number, rows in wrong.items():
            for row in rows:
                told = ROWS[:number] + [row] + ROWS[number + 1 :]
                kept = [list(told_row) for told_row in told]
                self.assert_raises(BadTable, {"at": number}, Tabled, 2, told)
                self.assertEqual(told, kept)

    def test_the_first_bad_row(self):
        self.assert_raises(BadTable, {"at": 1}, Tabled, 2, [[1, 0, 0], [1, 2, 0], [0], [1, 1, 1]])
        self.assert_raises(BadTable, {"at": 0}, Tabled, 2, [[1], [1, 2, 0], [2, 0, 1], [4, 1, 2]])

    def test_all_buyers_may_take_something(self):
        self.assert_shares(Tabled(2, ROWS[:3] + [[3, 1, 2]]), (0, 1), ["1/3", "2/3"])

    def test_wrong_lots_and_prices(self):
        for many in (0, 1, 2, 3, 6):
            rule = Tabled(many, table_rows(many))
            self.assert_wrong_lots(rule)
            self.assert_wrong_prices(rule, rule.best, rule.best_dearest)

    def test_best_of_all_lots(self):
        rows = [[1, 0, 0, 0], [2, 1, 0, 0], [2, 0, 1, 0], [4, 1, 1, 0], [3, 0, 0, 2], [5, 1, 0, 4], [5, 0, 1, 1]]
        rule = Tabled(3, rows + [[7, 1, 1, 1]])
        for prices in itertools.product((0, 1, 2, 3, 8), repeat=3):
            self.assert_best_of_all_lots(rule, list(prices))


class EqualTest(ShelfTest):
    def test_equal_tables(self):
        self.assertIs(Tabled(2, ROWS) == Tabled(2, ROWS), True)
        self.assertIs(Tabled(2, ROWS) != Tabled(2, ROWS), False)
        more = [[row[0] * 3, row[1] * 3, row[2] * 3] for row in ROWS]
        self.assertIs(Tabled(2, ROWS) == Tabled(2, more), True)
        self.assertIs(Tabled(0, [[1]]) == Tabled(0, [[4]]), True)

    def test_unequal_tables(self):
        for number, row in enumerate([None, [2, 1, 0], [3, 0, 1], [4, 2, 1]]):
            if row is not None:
                other = Tabled(2, ROWS[:number] + [row] + ROWS[number + 1 :])
                self.assertIs(Tabled(2, ROWS) == other, False)
                self.assertIs(Tabled(2, ROWS) != other, True)
        self.assertIs(Tabled(1, table_rows(1)) == Tabled(0, table_rows(0)), False)
        self.assertIs(Tabled(1, table_rows(1)) == Tabled(2, table_rows(2)), False)

    def test_something_that_is_no_table(self):
        table = Tabled(1, [[1, 0], [2, 1]])
        for other in (Rule(1), Weighted([1], 1), Listed(1, [(1, (0,))]), table.rows, None, 1, "table"):
            self.assertIs(table == other, False)
            self.assertIs(other == table, False)
            self.assertIs(table != other, True)


class OfTest(ShelfTest):
    def test_rows_by_hand(self):
        table = Tabled.of(Weighted([2, 1], 4))
        self.assertIs(type(table), Tabled)
        self.assertEqual(table.many, 2)
        self.assertEqual(table.rows, ((1, 0, 0), (3, 1, 0), (5, 0, 1), (7, 2, 1)))
        self.assertEqual(Tabled.of(Rule(1)).rows, ((1, 0), (1, 0)))
        self.assertEqual(Tabled.of(Rule(0)).rows, ((1,),))
        mixed = Mixed((1, Listed(2, [(1, (0, 1))])), (2, Weighted([1, 1], 1)))
        self.assertEqual(Tabled.of(mixed).rows, ((1, 0, 0), (3, 2, 0), (3, 0, 2), (9, 5, 2)))

    def test_shares_of_rules_of_each_kind(self):
        rules = [
            Rule(3),
            Weighted([2, 1, 3], 4),
            Weighted([6, 10, 15], 30),
            Listed(3, [(3, (0, 1)), (2, (2,)), (1, ()), (4, (1, 2, 0))]),
            Mixed((2, Weighted([2, 1, 3], 4)), (5, Listed(3, [(3, (2, 0))]))),
            Weighted([1, 2, 3, 4, 5, 6], 7),
            Tabled(2, ROWS),
        ]
        for rule in rules:
            table = Tabled.of(rule)
            for lot in all_lots(rule.many):
                self.assert_shares(table, lot, [Fraction(word) for word in written(rule.shares(lot))])
            self.assertIs(table == Tabled.of(table), True)
            self.assertIs(table == Tabled(rule.many, table.rows), True)
