import itertools
import random
from fractions import Fraction
from math import gcd

from dearestshelf import learning as module
from dearestshelf.chains import Stepping
from dearestshelf.errors import Unlike, Unsold
from dearestshelf.learning import expected, learned, likelihood
from dearestshelf.mixes import Mixed
from dearestshelf.ratios import Ratio
from dearestshelf.rules import Listed, Rule
from dearestshelf.sales import SalesBook
from dearestshelf.tables import Tabled
from dearestshelf.weights import Weighted
from tests.helper import ShelfTest, all_lots, fraction, written

LARGE = 10**18 - 1
WEIGHTED = Weighted([2, 1, 3], 4)
LISTED = Listed(3, [(5, (1, 0)), (2, (2,)), (1, ())])
BOOK = SalesBook(3, [((0, 2), [2, 0], 3), ((0, 1, 2), [1, 2, 4], 0), ((), [], 2)])


def each_rule():
    """Return a rule of each kind, of three things."""
    chain = Stepping([1, 2, 1], 2, [[0, 1, 3], [0, 0, 1], [2, 2, 0]], [1, 1, 4])
    mixture = Mixed((2, WEIGHTED), (3, LISTED))
    return [Rule(3), LISTED, WEIGHTED, mixture, Tabled.of(mixture), chain]


def told_likelihood(rule, book):
    chance = Fraction(1)
    for lot, sold, gone in book:
        shares = [fraction(share) for share in rule.shares(lot)]
        chance *= fraction(rule.away(lot)) ** gone
        for thing, count in zip(lot, sold):
            chance *= shares[thing] ** count
    return chance


def told_expected(rule, book):
    return [
        sum((fraction(rule.shares(lot)[thing]) * (sum(sold) + gone) for lot, sold, gone in book), start=Fraction(0))
        for thing in range(rule.many)
    ]


def told_round(weights, aside, book):
    """Return the weights after one round, by the words of point 30."""
    after = list(weights)
    for thing in range(len(weights)):
        records = [(lot, sum(sold) + gone) for lot, sold, gone in book if thing in lot]
        if records:
            totals = [aside + sum(weights[other] for other in lot) for lot, _ in records]
            after[thing] = book.sold_of(thing) / sum(buyers / total for (_, buyers), total in zip(records, totals))
    return after


def told_learned(rule, book, rounds):
    weights = [Fraction(weight) for weight in rule.weights]
    for _ in range(rounds):
        weights = told_round(weights, rule.aside, book)
    return weights


class LearningTest(ShelfTest):
    def assert_learned(self, rule, book, rounds):
        """Check `learned` against the words of point 30; return the rule."""
        kept = list(book)
        found = learned(rule, book, rounds=rounds)
        self.assertIs(type(found), Weighted)
        numbers = [*found.weights, found.aside]
        self.assertTrue(all(type(number) is int for number in numbers))
        self.assertEqual(gcd(*numbers), 1)
        told = [weight / rule.aside for weight in told_learned(rule, book, rounds)]
        self.assertEqual([Fraction(weight, found.aside) for weight in found.weights], told)
        self.assertEqual(list(book), kept)
        return found

    def assert_round_helps(self, rule, book):
        """Check that rounds never make the likelihood less."""
        chances = [fraction(likelihood(self.assert_learned(rule, book, rounds), book)) for rounds in (0, 1, 2)]
        self.assertEqual(chances, sorted(chances))


class InterfaceTest(LearningTest):
    def test_interface(self):
        signatures = {
            "likelihood": "(rule, book)",
            "expected": "(rule, book)",
            "learned": "(rule, book, *, rounds=1)",
        }
        self.assert_interface(module, signatures)

    def test_example(self):
        after = learned(Weighted([1, 1], 1), SalesBook(2, [((0, 1), [2, 1], 1)]))
        self.assertEqual([after.weights, after.aside], [(6, 3), 4])

    def test_unlike(self):
        for book in (SalesBook(2), SalesBook(4), SalesBook(4, [((0,), [0], 1)]), SalesBook(0), SalesBook(24)):
            for rule in each_rule():
                self.assert_raises(Unlike, {"at": None}, likelihood, rule, book)
                self.assert_raises(Unlike, {"at": None}, expected, rule, book)
            for rounds in (-1, 0, 1, 2, 3):
                self.assert_raises(Unlike, {"at": None}, learned, WEIGHTED, book, rounds=rounds)


class LikelihoodTest(LearningTest):
    def test_by_hand(self):
        rule = Weighted([1, 2], 3)
        book = SalesBook(2, [((0, 1), [1, 2], 1), ((1,), [0], 2)])
        # The shares are 1/6, 1/3 and 1/2, and then 2/5 and 3/5.
        self.assert_ratio(likelihood(rule, book), 3, 4 * 9 * 25)
        self.assertEqual(written(expected(rule, book)), ["2/3", "32/15"])

    def test_empty_books(self):
        for rule in each_rule():
            self.assert_ratio(likelihood(rule, SalesBook(3)), 1)
            self.assertEqual(written(expected(rule, SalesBook(3))), ["0", "0", "0"])
        self.assert_ratio(likelihood(Rule(0), SalesBook(0)), 1)
        self.assert_ratio(likelihood(Rule(0), SalesBook(0, [((), [], 5)])), 1)
        self.assertEqual(expected(Rule(0), SalesBook(0, [((), [], 5)])), [])

    def test_shares_of_0(self):
        self.assert_ratio(likelihood(Rule(3), SalesBook(3, [((0, 1), [0, 0], 0)])), 1)
        self.assert_ratio(likelihood(Rule(3), SalesBook(3, [((0, 1), [0, 0], 9)])), 1)
        self.assert_ratio(likelihood(Rule(3), SalesBook(3, [((0, 1), [0, 1], 9)])), 0)
        # Nobody goes away, and nobody takes thing 1 while thing 0 stands.
        rule = Listed(2, [(1, (0, 1))])
        self.assert_ratio(likelihood(rule, SalesBook(2, [((0, 1), [6, 0], 0), ((1,), [2], 0)])), 1)
        self.assert_ratio(likelihood(rule, SalesBook(2, [((0, 1), [6, 0], 1)])), 0)
        self.assert_ratio(likelihood(rule, SalesBook(2, [((0, 1), [0, 1], 0)])), 0)
        self.assert_ratio(likelihood(rule, SalesBook(2, [((), [], 3)])), 1)

    def test_each_kind_of_rule(self):
        told = random.Random(29)
        books = [BOOK]
        for _ in range(20):
            records = []
            for lot in told.choices(all_lots(3), k=4):
                records.append((lot, [told.randint(0, 3) for _ in lot], told.randint(0, 3)))
            books.append(SalesBook(3, records))
        for rule, book in itertools.product(each_rule(), books):
            kept = list(book)
            self.assertEqual(fraction(likelihood(rule, book)), told_likelihood(rule, book))
            found = expected(rule, book)
            self.assertIs(type(found), list)
            self.assertEqual([fraction(number) for number in found], told_expected(rule, book))
            self.assertEqual(list(book), kept)

    def test_what_was_returned_may_be_changed(self):
        likelihood(WEIGHTED, BOOK).top = 5
        found = expected(WEIGHTED, BOOK)
        found[0].top = 99
        found.clear()
        self.assertEqual([fraction(number) for number in expected(WEIGHTED, BOOK)], told_expected(WEIGHTED, BOOK))
        self.assertEqual(fraction(likelihood(WEIGHTED, BOOK)), told_likelihood(WEIGHTED, BOOK))


class LearnedTest(LearningTest):
    def test_rounds(self):
        for rounds in (-1, 3, LARGE, -LARGE):
            self.assert_number("rounds", None, learned, WEIGHTED, BOOK, rounds=rounds)
            self.assert_number("rounds", None, learned, WEIGHTED, SalesBook(3), rounds=rounds)
            # The rounds are checked before what was sold.
            self.assert_number("rounds", None, learned, WEIGHTED, SalesBook(3, [((0,), [0], 1)]), rounds=rounds)

    def test_unsold(self):
        told = [
            ([((0, 1), [1, 0], 1)], 1),
            ([((0, 1, 2), [1, 0, 0], 1)], 1),
            ([((2,), [0], 0)], 2),
            ([((0,), [0], 5), ((0, 2), [1, 0], 5)], 2),
            ([((2,), [0], 5), ((0, 1), [0, 0], 5)], 0),
        ]
        for records, thing in told:
            for rounds in (0, 1, 2):
                book = SalesBook(3, records)
                self.assert_raises(Unsold, {"thing": thing}, learned, WEIGHTED, book, rounds=rounds)
        # Each thing was sold in some record.
        self.assert_learned(WEIGHTED, SalesBook(3, [((0, 1), [0, 1], 0), ((0, 2), [2, 0], 0), ((2,), [1], 0)]), 2)

    def test_no_rounds(self):
        for weights, aside in [([6, 9, 3], 12), ([2, 1, 3], 4), ([LARGE, LARGE, LARGE], LARGE)]:
            rule = Weighted(weights, aside)
            for book in (SalesBook(3), BOOK):
                found = self.assert_learned(rule, book, 0)
                reduced = rule.reduced()
                self.assertEqual((found.weights, found.aside), (reduced.weights, reduced.aside))
            self.assertEqual((rule.weights, rule.aside), (tuple(weights), aside))

    def test_one_round_if_nothing_is_said(self):
        told, found = learned(WEIGHTED, BOOK, rounds=1), learned(WEIGHTED, BOOK)
        self.assertEqual((found.weights, found.aside), (told.weights, told.aside))
        self.assertNotEqual(found.weights, learned(WEIGHTED, BOOK, rounds=2).weights)

    def test_by_hand(self):
        rule = Weighted([1, 3], 2)
        book = SalesBook(2, [((0,), [2], 1), ((0, 1), [1, 3], 2)])
        # The totals are 3 and 6: thing 0 gets 3 / (3/3 + 6/6), thing 1 gets 3 / (6/6).
        found = learned(rule, book)
        self.assertEqual((found.weights, found.aside), ((3, 6), 4))
        # The totals are 7/2 and 13/2: 3 / (6/7 + 12/13), and 3 / (12/13).
        found = self.assert_learned(rule, book, 2)
        self.assertEqual(Fraction(found.weights[0], found.aside), Fraction(91, 108))
        self.assertEqual(Fraction(found.weights[1], found.aside), Fraction(13, 8))

    def test_things_that_stood_in_no_record(self):
        found = self.assert_learned(Weighted([3, 5, 7], 2), SalesBook(3, [((1,), [1], 6)]), 1)
        # Thing 1 gets 1 / (7/7), and the others keep their weights.
        self.assertEqual((found.weights, found.aside), ((3, 1, 7), 2))
        found = self.assert_learned(Weighted([4, 6], 8), SalesBook(2, [((), [], 3)]), 2)
        self.assertEqual((found.weights, found.aside), ((2, 3), 4))
        found = self.assert_learned(Weighted([], 6), SalesBook(0, [((), [], 3)]), 2)
        self.assertEqual((found.weights, found.aside), ((), 1))

    def test_records_without_buyers(self):
        book = SalesBook(3, [((0, 1), [0, 0], 0), ((1,), [2], 1), ((0,), [1], 0)])
        self.assert_round_helps(WEIGHTED, book)

    def test_expected_numbers_that_were_sold(self):
        book = SalesBook(3, [((0, 1, 2), [2, 1, 3], 4), ((0, 2), [2, 3], 4)])
        self.assertEqual([fraction(number) for number in expected(WEIGHTED, book)], [4, 1, 6])
        for rounds in (0, 1, 2):
            found = learned(Weighted([4, 2, 6], 8), book, rounds=rounds)
            self.assertEqual((found.weights, found.aside), ((2, 1, 3), 4))
        greatest = fraction(likelihood(WEIGHTED, book))
        for weights in itertools.product(range(1, 5), repeat=3):
            self.assertLessEqual(fraction(likelihood(Weighted(list(weights), 4), book)), greatest)

    def test_books_by_chance(self):
        told = random.Random(30)
        for _ in range(80):
            many = told.randint(1, 4)
            rule = Weighted([told.randint(1, 9) for _ in range(many)], told.randint(1, 9))
            records = []
            for _ in range(told.randint(1, 4)):
                lot = told.choice(all_lots(many))
                records.append((lot, [told.randint(1, 2) for _ in lot], told.randint(0, 3)))
            self.assert_round_helps(rule, SalesBook(many, records))

    def test_great_numbers(self):
        rule = Weighted([LARGE, LARGE - 1, 1, LARGE // 3], LARGE - 7)
        self.assert_round_helps(rule, SalesBook(4, [((0, 1, 2, 3), [1, 4, 1, 6], 2), ((1, 3), [4, 1], 5)]))

    def test_a_learned_rule_may_be_passed_in_again(self):
        rule = WEIGHTED
        for _ in range(3):
            rule = learned(rule, BOOK)
        self.assertLessEqual(fraction(likelihood(WEIGHTED, BOOK)), fraction(likelihood(rule, BOOK)))
        self.assertIsInstance(rule.shares((0, 1))[0], Ratio)
