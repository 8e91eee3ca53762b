import random
from fractions import Fraction
from math import gcd

from dearestshelf import back as module
from dearestshelf.back import weights_back
from dearestshelf.errors import BadLot, Crossed, TooMany
from dearestshelf.weights import Weighted
from tests.helper import ShelfTest, fraction, wrong_lots

LARGE = 10**18 - 1


def told_groups(many, rows):
    """Return the groups of things that rows connect, as a list of lists."""
    group = list(range(many))
    for lot, _ in rows:
        for thing in lot[1:]:
            group = [group[lot[0]] if label == group[thing] else label for label in group]
    labels = list(dict.fromkeys(group))
    return [[thing for thing in range(many) if group[thing] == label] for label in labels]


class BackTest(ShelfTest):
    def assert_fit(self, many, rows):
        """Check that weights come back which fit all rows."""
        kept = [(lot, list(counts)) for lot, counts in rows]
        found = weights_back(many, rows)
        self.assertEqual([(lot, list(counts)) for lot, counts in rows], kept)
        self.assertIs(type(found), list)
        self.assertEqual([[thing for thing, _ in group] for group in found], told_groups(many, rows))
        weights = {}
        for group in found:
            self.assertIs(type(group), list)
            self.assertTrue(all(type(pair) is tuple and type(pair[1]) is int and pair[1] > 0 for pair in group))
            self.assertEqual(gcd(*[weight for _, weight in group]), 1)
            weights.update(group)
        rule = Weighted([weights[thing] for thing in range(many)], 1)
        for lot, counts in rows:
            shares = [fraction(rule.shares(lot)[thing]) for thing in lot]
            for share, count in zip(shares, counts):
                self.assertEqual(share * counts[0], shares[0] * count)
        return found

    def assert_crossed(self, many, rows):
        """Check the ring of rows that no weights fit, by the words of point 31."""
        kept = [(lot, list(counts)) for lot, counts in rows]
        with self.assertRaises(ValueError) as caught:
            weights_back(many, rows)
        self.check_error(caught.exception, Crossed)
        self.assertEqual(set(vars(caught.exception)), {"ring"})
        ring = caught.exception.ring
        self.assertIs(type(ring), tuple)
        self.assertGreater(len(ring), 1)
        turn = Fraction(1)
        for at, triple in enumerate(ring):
            self.assertIs(type(triple), tuple)
            number, thing, other = triple
            lot, counts = rows[number]
            self.assertNotEqual(thing, other)
            self.assertEqual(ring[at - 1][2], thing)
            turn = turn * Fraction(counts[lot.index(other)], counts[lot.index(thing)])
        self.assertNotEqual(turn, 1)
        self.assertEqual([(lot, list(counts)) for lot, counts in rows], kept)
        return ring


class InterfaceTest(BackTest):
    def test_interface(self):
        self.assert_interface(module, {"weights_back": "(many, rows)"})

    def test_example(self):
        self.assertEqual(weights_back(3, [((0, 1), [2, 4])]), [[(0, 1), (1, 2)], [(2, 1)]])

    def test_what_was_returned_may_be_changed(self):
        rows = [((0, 1), [2, 4])]
        weights_back(3, rows)[0].clear()
        self.assertEqual(rows, [((0, 1), [2, 4])])
        self.assertEqual(weights_back(3, rows), [[(0, 1), (1, 2)], [(2, 1)]])


class ChecksTest(BackTest):
    def test_too_many(self):
        for rows in ([], [((30,), [])], [((0, 1), [0, 1])]):
            self.assert_raises(TooMany, {"many": 25, "most": 24}, weights_back, 25, rows)

    def test_lots(self):
        for many in (0, 1, 3, 24):
            for lot in wrong_lots(many):
                self.assert_raises(BadLot, {}, weights_back, many, [(lot, [1] * len(lot))])
                self.assert_raises(BadLot, {}, weights_back, many, [((), []), (lot, [0])])

    def test_counts(self):
        for counts in ([], [1], [1, 1, 1], [0], [1, 0], [0, 1], [-1, -1], [1, -LARGE]):
            self.assert_number("counts", 0, weights_back, 3, [((0, 2), counts), ((0, 9), [1, 1])])
            self.assert_number("counts", 2, weights_back, 3, [((0,), [1]), ((), []), ((0, 2), counts)])
        self.assert_number("counts", 1, weights_back, 3, [((0,), [1]), ((), [1])])
        self.assert_number("counts", 0, weights_back, 1, [((0,), [0])])

    def test_the_order_of_the_checks(self):
        self.assert_number("counts", 0, weights_back, 3, [((0,), [0]), ((3,), [1])])
        self.assert_raises(BadLot, {}, weights_back, 3, [((3,), [1]), ((0,), [0])])
        # All rows are checked before any two of them are compared.
        crossed = [((0, 1), [1, 1]), ((0, 1), [1, 2])]
        self.assert_number("counts", 2, weights_back, 3, [*crossed, ((0,), [0])])
        self.assert_raises(BadLot, {}, weights_back, 3, [*crossed, ((2, 1), [1, 1])])


class FitTest(BackTest):
    def test_nothing_is_connected(self):
        self.assertEqual(self.assert_fit(0, []), [])
        self.assertEqual(self.assert_fit(0, [((), [])]), [])
        self.assertEqual(self.assert_fit(2, []), [[(0, 1)], [(1, 1)]])
        self.assertEqual(self.assert_fit(2, [((), []), ((1,), [7]), ((0,), [LARGE])]), [[(0, 1)], [(1, 1)]])
        self.assertEqual(len(self.assert_fit(24, [((23,), [5])])), 24)

    def test_groups_in_their_order(self):
        found = self.assert_fit(6, [((2, 5), [3, 6]), ((1, 4), [10, 4])])
        self.assertEqual(found, [[(0, 1)], [(1, 5), (4, 2)], [(2, 1), (5, 2)], [(3, 1)]])
        found = self.assert_fit(5, [((3, 4), [1, 1]), ((1, 4), [2, 1]), ((0, 2), [1, 3])])
        self.assertEqual(found, [[(0, 1), (2, 3)], [(1, 2), (3, 1), (4, 1)]])

    def test_chains(self):
        found = self.assert_fit(4, [((0, 1), [2, 3]), ((1, 2), [2, 5]), ((2, 3), [6, 1])])
        self.assertEqual(found, [[(0, 8), (1, 12), (2, 30), (3, 5)]])
        rows = [((thing, thing + 1), [LARGE, LARGE - 1]) for thing in range(23)]
        self.assertEqual(len(self.assert_fit(24, rows)), 1)
        self.assertEqual(len(self.assert_fit(24, rows[::-1])), 1)

    def test_rows_that_agree(self):
        self.assert_fit(3, [((0, 1), [1, 2]), ((1, 2), [1, 3]), ((0, 2), [1, 6])])
        self.assert_fit(3, [((0, 1), [1, 2])] * 60)
        self.assert_fit(4, [((0, 1, 2, 3), [2, 4, 6, 8]), ((1, 3), [1, 2]), ((0, 2, 3), [3, 9, 12])])

    def test_rows_by_chance(self):
        told = random.Random(31)
        for _ in range(60):
            many = told.randint(1, 8)
            weights = [told.randint(1, 12) for _ in range(many)]
            rows = []
            for _ in range(told.randint(0, 9)):
                lot = tuple(sorted(told.sample(range(many), told.randint(0, min(3, many)))))
                factor = told.randint(1, 4)
                rows.append((lot, [weights[thing] * factor for thing in lot]))
            self.assert_fit(many, rows)

    def test_most_things_and_rows(self):
        told = random.Random(24)
        weights = [told.randint(1, LARGE // 1000) for _ in range(24)]
        rows = []
        for _ in range(60):
            lot = tuple(sorted(told.sample(range(24), 6)))
            rows.append((lot, [weights[thing] * 7 for thing in lot]))
        self.assertEqual(len(self.assert_fit(24, rows)), 1)
        lot, counts = rows[-1]
        rows[-1] = (lot, [counts[0] + 1, *counts[1:]])
        self.assert_crossed(24, rows)


class CrossedTest(BackTest):
    def test_two_rows(self):
        self.assertEqual(len(self.assert_crossed(2, [((0, 1), [1, 2]), ((0, 1), [2, 1])])), 2)
        self.assert_crossed(3, [((0, 1, 2), [1, 2, 3]), ((1, 2), [3, 2])])
        self.assert_crossed(3, [((1, 2), [3, 2]), ((0, 1, 2), [1, 2, 3])])
        self.assert_crossed(24, [((22, 23), [LARGE, LARGE - 1]), ((22, 23), [LARGE - 1, LARGE - 2])])

    def test_rings(self):
        ring = self.assert_crossed(3, [((0, 1), [1, 2]), ((1, 2), [1, 3]), ((0, 2), [1, 5])])
        self.assertEqual(len(ring), 3)
        rows = [((thing, thing + 1), [1, 1]) for thing in range(23)] + [((0, 23), [1, 2])]
        self.assertEqual(len(self.assert_crossed(24, rows)), 24)
        self.assertEqual(len(self.assert_crossed(24, rows[::-1])), 24)

    def test_a_ring_far_from_the_lowest_thing(self):
        rows = [((0, 1), [1, 2]), ((1, 2), [1, 1]), ((2, 3), [1, 1]), ((3, 4), [1, 1]), ((2, 4), [1, 3])]
        ring = self.assert_crossed(5, rows)
        self.assertEqual({number for number, _, _ in ring}, {2, 3, 4})

    def test_a_row_between_a_thing_and_the_one_before_it(self):
        near = [((0, 3), [1, 1]), ((1, 3), [1, 1]), ((1, 3), [1, 2])]
        self.assertEqual(set(self.assert_crossed(4, near)), {(2, 1, 3), (1, 3, 1)})
        near = [((0, 1), [1, 1]), ((1, 2), [1, 1]), ((1, 2), [1, 2])]
        self.assertEqual(set(self.assert_crossed(4, near)), {(2, 1, 2), (1, 2, 1)})

    def test_a_second_group(self):
        self.assert_crossed(5, [((0, 1), [1, 2]), ((2, 3), [1, 1]), ((3, 4), [1, 1]), ((2, 4), [1, 3])])

    def test_rows_by_chance(self):
        told = random.Random(131)
        crossed = 0
        for _ in range(150):
            many = told.randint(2, 7)
            weights = [told.randint(1, 6) for _ in range(many)]
            rows = []
            for _ in range(told.randint(2, 8)):
                lot = tuple(sorted(told.sample(range(many), told.randint(1, min(4, many)))))
                rows.append((lot, [weights[thing] for thing in lot]))
            lot, counts = told.choice(rows)
            counts[-1] = counts[-1] + 1
            if self.fits(many, rows):
                self.assert_fit(many, rows)
            else:
                crossed = crossed + 1
                self.assert_crossed(many, rows)
        self.assertGreater(crossed, 30)
        self.assertLess(crossed, 120)

    def fits(self, many, rows):
        """Tell whether some weights fit, by trying to give the things weights again and again."""
        weights = {}
        for group in told_groups(many, rows):
            weights[group[0]] = Fraction(1)
            for _ in group:
                for lot, counts in rows:
                    known = [at for at, thing in enumerate(lot) if thing in weights]
                    for at, thing in enumerate(lot):
                        if known:
                            weights.setdefault(thing, weights[lot[known[0]]] * counts[at] / counts[known[0]])
        return all(
            weights[lot[0]] * counts[at] == weights[thing] * counts[0]
            for lot, counts in rows
            for at, thing in enumerate(lot)
        )
