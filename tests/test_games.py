import itertools
import random

from dearestshelf import games as module
from dearestshelf.errors import BadTable
from dearestshelf.games import solve_game
from tests.helper import ShelfTest, fraction, written

HUGE = 10**60 - 1


class GamesTest(ShelfTest):
    def assert_solved(self, rows, value=None):
        """Check both mixes against each row and each column, which together prove the value."""
        kept = [list(row) for row in rows]
        solved = solve_game(rows)
        self.assertEqual(rows, kept)
        self.assertIs(type(solved), tuple)
        found, row_mix, column_mix = solved
        self.assertEqual((type(row_mix), type(column_mix)), (list, list))
        self.assertEqual((len(row_mix), len(column_mix)), (len(rows), len(rows[0])))
        found = fraction(found)
        row_mix = [fraction(part) for part in row_mix]
        column_mix = [fraction(part) for part in column_mix]
        for mix in (row_mix, column_mix):
            self.assertEqual(sum(mix), 1)
            self.assertGreaterEqual(min(mix), 0)
        for column in zip(*rows):
            self.assertGreaterEqual(sum(part * number for part, number in zip(row_mix, column)), found)
        for row in rows:
            self.assertLessEqual(sum(part * number for part, number in zip(column_mix, row)), found)
        if value is not None:
            self.assertEqual(str(found), value)

    def test_interface(self):
        self.assert_interface(module, {"solve_game": "(rows)"})

    def test_by_hand(self):
        value, row_mix, column_mix = solve_game([[3, 1], [0, 2]])
        self.assertEqual([str(value), written(row_mix), written(column_mix)], ["3/2", ["1/2", "1/2"], ["1/4", "3/4"]])
        value, row_mix, column_mix = solve_game([[1, -1, 0], [0, 1, -1], [-1, 0, 1]])
        self.assertEqual([str(value), written(row_mix), written(column_mix)], ["0", ["1/3"] * 3, ["1/3"] * 3])
        value, row_mix, column_mix = solve_game([[-5, 4, 9], [2, -3, 9]])
        self.assertEqual([str(value), written(row_mix)], ["-1/2", ["5/14", "9/14"]])
        self.assertEqual(written(column_mix), ["1/2", "1/2", "0"])

    def test_one_number_one_row_one_column(self):
        self.assert_solved([[-7]], "-7")
        self.assert_solved([[0]], "0")
        self.assert_solved([[4, -2, 9, -2, 3, 3]], "-2")
        self.assert_solved([[4], [-2], [9], [9], [3], [3]], "9")
        value, row_mix, column_mix = solve_game([[4, -2, 9]])
        self.assertEqual([written(row_mix), written(column_mix)], [["1"], ["0", "1", "0"]])

    def test_one_pair_that_both_name(self):
        self.assert_solved([[4, 2, 5], [6, 3, 4], [1, 1, 9]], "3")
        value, row_mix, column_mix = solve_game([[4, 2, 5], [6, 3, 4], [1, 1, 9]])
        self.assertEqual([written(row_mix), written(column_mix)], [["0", "1", "0"], ["0", "1", "0"]])

    def test_equal_numbers(self):
        for number in (0, 5, -5, HUGE, -HUGE):
            for many, width in itertools.product((1, 2, 6), repeat=2):
                self.assert_solved([[number] * width] * many, str(number))
        self.assert_solved([[1, 2, 3], [1, 2, 3], [1, 2, 3]], "1")
        self.assert_solved([[0, 0], [1, -1], [0, 0], [-1, 1]], "0")
        self.assert_solved([[0, 1, 0], [0, 0, 0], [0, 0, 1], [1, 0, 0]], "1/3")

    def test_numbers_below_0(self):
        self.assert_solved([[-3, -1], [0, -2]], "-3/2")
        self.assert_solved([[-1, -2], [-3, -4]], "-2")

    def test_games_on_which_a_careless_simplex_method_goes_round_in_a_ring(self):
        self.assert_solved([[3, -1, 3, 4, -6, 1], [-3, 3, -1, -4, -6, -1], [-5, 0, 6, -6, -6, -5]], "-6")
        rows = [[1, 1, 1, 2, 1, -1], [-2, -2, 1, -1, -2, 0], [2, 2, 0, -2, 0, -2]]
        self.assert_solved([*rows, [2, -2, 0, 0, 1, -2], [2, -1, -2, 2, -2, -2]])
        rows = [[-2, -1, 1, -2, -3, -3], [1, 1, 3, 0, 2, -3], [1, 2, 3, -3, -2, -3]]
        self.assert_solved([*rows, [0, 1, -1, -1, 1, -3], [2, -3, 3, 3, -2, -3]], "-3")

    def test_all_small_games(self):
        for numbers in itertools.product((-1, 0, 1), repeat=6):
            self.assert_solved([list(numbers[:3]), list(numbers[3:])])
            self.assert_solved([list(numbers[at : at + 2]) for at in (0, 2, 4)])

    def test_games_by_chance(self):
        told = random.Random(24)
        for great in (1, 2, 9, 1000, HUGE):
            for many, width in [(6, 6), (6, 6), (5, 6), (6, 3), (2, 6), (4, 4)] * 8:
                rows = [[told.randint(-great, great) for _ in range(width)] for _ in range(many)]
                self.assert_solved(rows)
                self.assert_solved([rows[told.randrange(many)] for _ in range(many)])
                turned = [[-number for number in column] for column in zip(*rows)]
                self.assertEqual(fraction(solve_game(turned)[0]), -fraction(solve_game(rows)[0]))

    def test_wrong_rows(self):
        for rows in ([], [[]], [[], []], [[], [1]], [[], [1, 2], [3]]):
            self.assert_raises(BadTable, {"at": None}, solve_game, rows)
        self.assert_raises(BadTable, {"at": 1}, solve_game, [[1], [1, 2], [1]])
        self.assert_raises(BadTable, {"at": 1}, solve_game, [[1, 2], [], [1]])
        self.assert_raises(BadTable, {"at": 2}, solve_game, [[1, 2], [3, 4], [5], [5, 6, 7]])
        self.assert_raises(BadTable, {"at": 5}, solve_game, [[1, 2, 3]] * 5 + [[1, 2, 3, 4]])

    def test_returned_lists_may_be_changed(self):
        rows = [[3, 1], [0, 2]]
        value, row_mix, column_mix = solve_game(rows)
        row_mix[0].top = 9
        row_mix.clear()
        column_mix.clear()
        self.assert_solved(rows, "3/2")
