import inspect
import itertools
import math

from dearestshelf import lots as module
from dearestshelf.lots import dearest, dearest_order, first_things, lot_at, lot_number, lots, orders
from tests.helper import ShelfTest


class LotsTest(ShelfTest):
    def test_interface(self):
        signatures = {
            "lots": "(many)",
            "orders": "(things)",
            "lot_number": "(lot)",
            "lot_at": "(number, many)",
            "dearest_order": "(prices)",
            "first_things": "(order, k)",
            "dearest": "(prices, k)",
        }
        self.assert_interface(module, signatures)
        self.assertTrue(inspect.isgeneratorfunction(lots))
        self.assertTrue(inspect.isgeneratorfunction(orders))

    def test_lots_in_ascending_order_of_their_numbers(self):
        self.assertEqual(list(lots(0)), [()])
        self.assertEqual(list(lots(1)), [(), (0,)])
        self.assertEqual(list(lots(2)), [(), (0,), (1,), (0, 1)])
        told = [(), (0,), (1,), (0, 1), (2,), (0, 2), (1, 2), (0, 1, 2)]
        self.assertEqual(list(lots(3)), told)

    def test_the_greatest_number_of_things(self):
        found = list(lots(10))
        self.assertEqual(len(found), 1024)
        self.assertEqual(found[-1], tuple(range(10)))
        self.assertEqual([lot_number(lot) for lot in found], list(range(1024)))
        for lot in found:
            self.assertIs(type(lot), tuple)
            self.assertEqual(list(lot), sorted(set(lot)))

    def test_lot_numbers(self):
        self.assertEqual(lot_number(()), 0)
        self.assertEqual(lot_number((0,)), 1)
        self.assertEqual(lot_number((1, 3)), 10)
        self.assertEqual(lot_number((0, 200)), 2**200 + 1)

    def test_lot_at(self):
        self.assertEqual(lot_at(0, 0), ())
        self.assertEqual(lot_at(0, 5), ())
        self.assertEqual(lot_at(10, 4), (1, 3))
        self.assertEqual(lot_at(31, 5), (0, 1, 2, 3, 4))
        self.assertEqual(lot_at(2**200 + 1, 201), (0, 200))
        for number in range(64):
            self.assertEqual(lot_number(lot_at(number, 6)), number)

    def test_orders_in_ascending_order(self):
        self.assertEqual(list(orders(())), [()])
        self.assertEqual(list(orders((4,))), [(4,)])
        self.assertEqual(list(orders((2, 9))), [(2, 9), (9, 2)])
        told = [(1, 5, 70), (1, 70, 5), (5, 1, 70), (5, 70, 1), (70, 1, 5), (70, 5, 1)]
        self.assertEqual(list(orders((1, 5, 70))), told)

    def test_the_greatest_number_of_things_of_orders(self):
        things = (0, 2, 3, 10**9, 10**59, 10**59 + 2)
        found = list(orders(things))
        self.assertEqual(len(found), math.factorial(6))
        self.assertEqual(found, list(itertools.permutations(things)))
        self.assertEqual(found, sorted(set(found)))


class PricesTest(ShelfTest):
    def test_dearest_order(self):
        self.assertEqual(dearest_order([]), ())
        self.assertEqual(dearest_order([7]), (0,))
        self.assertEqual(dearest_order([1, 2, 3]), (2, 1, 0))
        self.assertEqual(dearest_order([3, 2, 1]), (0, 1, 2))

    def test_of_equal_prices_the_lower_thing_goes_first(self):
        self.assertEqual(dearest_order([5, 5, 5]), (0, 1, 2))
        self.assertEqual(dearest_order([5, 9, 5, 9, 0]), (1, 3, 0, 2, 4))
        for prices in itertools.product(range(4), repeat=5):
            told = tuple(sorted(range(5), key=lambda thing: (-prices[thing], thing)))
            self.assertEqual(dearest_order(list(prices)), told)

    def test_prices_of_many_digits(self):
        self.assertEqual(dearest_order([10**18 - 2, 10**18 - 1, 0, 10**40]), (3, 1, 0, 2))

    def test_first_things(self):
        order = (4, 0, 7, 2)
        told = [(), (4,), (0, 4), (0, 4, 7), (0, 2, 4, 7)]
        self.assertEqual([first_things(order, k) for k in range(5)], told)
        self.assertEqual(first_things((), 0), ())

    def test_dearest(self):
        prices = [5, 9, 5, 9]
        told = [(), (1,), (1, 3), (0, 1, 3), (0, 1, 2, 3)]
        self.assertEqual([dearest(prices, k) for k in range(5)], told)
        self.assertEqual(dearest([], 0), ())

    def test_k_below_0_and_above_the_number_of_things(self):
        for order in ((), (0,), (2, 0, 1)):
            for k in (-1, -2, -(10**20), len(order) + 1, 10**20):
                self.assert_number("k", None, first_things, order, k)
                self.assert_number("k", None, dearest, [3] * len(order), k)

    def test_lists_stay_as_they_were(self):
        prices = [5, 9, 5, 9]
        dearest_order(prices)
        dearest(prices, 2)
        self.assert_number("k", None, dearest, prices, 5)
        self.assertEqual(prices, [5, 9, 5, 9])
        order = dearest_order(prices)
        prices[0] = 100
        self.assertEqual(order, (1, 3, 0, 2))
