import itertools
import operator
from fractions import Fraction

from dearestshelf import ratios
from dearestshelf.errors import BadText, ZeroBottom
from dearestshelf.ratios import Ratio
from tests.helper import ShelfTest, fraction

BIG = int("9" * 60)
PRIME = 10**59 + 213
PAIRS = [
    (0, 1), (0, -7), (1, 1), (-1, 1), (2, 1), (-2, 1), (7, 3), (-7, 3), (7, -3), (-7, -3), (1, 2),
    (-1, 2), (3, 6), (12, 8), (-12, 8), (12, 4), (-12, 4), (1, BIG), (BIG, 1), (-BIG, PRIME), (PRIME, BIG),
]  # fmt: skip
WHOLES = [0, 1, -1, 2, -2, 3, -7, 10, BIG, -BIG]
ARITHMETIC = [operator.add, operator.sub, operator.mul]
COMPARISONS = [operator.lt, operator.le, operator.gt, operator.ge]


def fields(ratio):
    return ratio.top, ratio.bottom


class RatioTest(ShelfTest):
    def test_interface(self):
        self.assert_interface(ratios, {"Ratio": "(top, bottom=1)"})
        self.assert_interface(Ratio, {"over": "(self, other)", "read": "(text)"})
        self.assertIsInstance(vars(Ratio)["read"], staticmethod)

    def test_lowest_terms(self):
        for top, bottom in PAIRS:
            told = Fraction(top, bottom)
            self.assertEqual(fields(Ratio(top, bottom)), (told.numerator, told.denominator))
        self.assertEqual(fields(Ratio(-12, 8)), (-3, 2))
        self.assertEqual(fields(Ratio(12, -8)), (-3, 2))
        self.assertEqual(fields(Ratio(-12, -8)), (3, 2))
        self.assertEqual(fields(Ratio(12, 4)), (3, 1))
        self.assertEqual(fields(Ratio(0, -5)), (0, 1))
        self.assertEqual(fields(Ratio(BIG * 6, BIG * 4)), (3, 2))

    def test_the_bottom_is_1_if_it_is_left_out(self):
        self.assertEqual(fields(Ratio(-5)), (-5, 1))
        self.assertEqual(fields(Ratio(0)), (0, 1))
        self.assertEqual(fields(Ratio(bottom=4, top=6)), (3, 2))

    def test_zero_bottom(self):
        for top in (0, 1, -1, BIG):
            self.assert_raises(ZeroBottom, {}, Ratio, top, 0)

    def test_sums_differences_and_products(self):
        for one, two in itertools.product(PAIRS, PAIRS):
            for work in ARITHMETIC:
                a, b = Ratio(*one), Ratio(*two)
                self.assertEqual(fraction(work(a, b)), work(Fraction(*one), Fraction(*two)))
                self.assertEqual((fields(a), fields(b)), (fields(Ratio(*one)), fields(Ratio(*two))))

    def test_whole_numbers_on_either_side(self):
        for pair, whole in itertools.product(PAIRS, WHOLES):
            for work in ARITHMETIC:
                a = Ratio(*pair)
                self.assertEqual(fraction(work(a, whole)), work(Fraction(*pair), whole))
                self.assertEqual(fraction(work(whole, a)), work(whole, Fraction(*pair)))
                self.assertEqual(fields(a), fields(Ratio(*pair)))

    def test_comparisons(self):
        for one, two in itertools.product(PAIRS, PAIRS):
            for work in COMPARISONS:
                self.assertIs(work(Ratio(*one), Ratio(*two)), work(Fraction(*one), Fraction(*two)))
        for pair, whole in itertools.product(PAIRS, WHOLES):
            for work in COMPARISONS:
                self.assertIs(work(Ratio(*pair), whole), work(Fraction(*pair), whole))
                self.assertIs(work(whole, Ratio(*pair)), work(whole, Fraction(*pair)))

    def test_comparisons_of_equal_numbers(self):
        for a, b in [(Ratio(4, 2), 2), (2, Ratio(2)), (Ratio(-1, 3), Ratio(2, -6)), (Ratio(0), 0)]:
            self.assertEqual([work(a, b) for work in COMPARISONS], [False, True, False, True])

    def test_comparisons_of_close_numbers(self):
        self.assertIs(Ratio(BIG - 1, BIG) < Ratio(BIG, BIG + 1), True)
        self.assertIs(Ratio(BIG - 1, BIG) >= Ratio(BIG, BIG + 1), False)
        self.assertIs(Ratio(BIG * BIG + 1, BIG) > BIG, True)

    def test_equality(self):
        for one, two in itertools.product(PAIRS, PAIRS):
            self.assertIs(Ratio(*one) == Ratio(*two), Fraction(*one) == Fraction(*two))
            self.assertIs(Ratio(*one) != Ratio(*two), Fraction(*one) != Fraction(*two))

    def test_a_ratio_equals_no_whole_number(self):
        for whole in WHOLES:
            self.assertIs(Ratio(whole) == whole, False)
            self.assertIs(whole == Ratio(whole), False)
            self.assertIs(Ratio(whole) != whole, True)
        self.assertIs(Ratio(1) == "1", False)
        self.assertIs(Ratio(0) == None, False)  # noqa: E711

    def test_negatives_amounts_and_truth(self):
        for pair in PAIRS:
            a = Ratio(*pair)
            self.assertEqual(fraction(-a), -Fraction(*pair))
            self.assertEqual(fraction(abs(a)), abs(Fraction(*pair)))
            self.assertIs(bool(a), bool(Fraction(*pair)))
            self.assertEqual(fields(a), fields(Ratio(*pair)))

    def test_quotients_floors_and_rests(self):
        divisors = [(Ratio(*pair), Fraction(*pair)) for pair in PAIRS if pair[0]]
        divisors = divisors + [(whole, whole) for whole in WHOLES if whole]
        for pair, (b, told) in itertools.product(PAIRS, divisors):
            a = Ratio(*pair)
            self.assertEqual(fraction(a.over(b)), Fraction(*pair) / told)
            self.assertIs(type(a // b), int)
            self.assertEqual(a // b, Fraction(*pair) // told)
            self.assertEqual(fraction(a % b), Fraction(*pair) % told)
            self.assertEqual(fields(a), fields(Ratio(*pair)))

    def test_floors_and_rests_below_zero(self):
        self.assertEqual(Ratio(-7, 3) // 2, -2)
        self.assertEqual(Ratio(7, 3) // -2, -2)
        self.assertEqual(Ratio(-7, 3) // Ratio(-2), 1)
        self.assertEqual(str(Ratio(-7, 3) % 2), "5/3")
        self.assertEqual(str(Ratio(7, 3) % -2), "-5/3")
        self.assertEqual(str(Ratio(7, 2) % Ratio(1, 2)), "0")

    def test_divisors_that_are_zero(self):
        for zero, a in itertools.product((0, Ratio(0), Ratio(0, -3)), (Ratio(7, 3), Ratio(0))):
            self.assert_raises(ZeroBottom, {}, a.over, zero)
            self.assert_raises(ZeroBottom, {}, operator.floordiv, a, zero)
            self.assert_raises(ZeroBottom, {}, operator.mod, a, zero)

    def test_a_ratio_with_itself(self):
        for pair in PAIRS:
            a = Ratio(*pair)
            self.assertEqual(fraction(a + a), 2 * Fraction(*pair))
            self.assertEqual(fields(a - a), (0, 1))
            self.assertEqual(fraction(a * a), Fraction(*pair) ** 2)
            self.assertIs(a == a, True)
            self.assertEqual([work(a, a) for work in COMPARISONS], [False, True, False, True])
            if a:
                self.assertEqual(fields(a.over(a)), (1, 1))
                self.assertEqual((a // a, fields(a % a)), (1, (0, 1)))

    def test_example_of_operators(self):
        a = Ratio(-7, 3)
        self.assertEqual([a // 2, str(a % 2), str(2 - a)], [-2, "5/3", "13/3"])


class WrittenFormTest(ShelfTest):
    def test_str(self):
        told = {(7, 1): "7", (-2, 1): "-2", (0, 5): "0", (-7, 3): "-7/3", (14, -6): "-7/3", (3, 9): "1/3"}
        for pair, text in told.items():
            self.assertEqual(str(Ratio(*pair)), text)

    def test_what_str_wrote_is_read_back(self):
        for pair in PAIRS + [(-whole, 3**900) for whole in WHOLES] + [(10**1900 + 1, 7)]:
            text = str(Ratio(*pair))
            self.assertEqual(fields(Ratio.read(text)), fields(Ratio(*pair)))
            self.assertEqual(str(Ratio.read(text)), text)

    def test_read(self):
        for text, told in {"0": (0, 1), "-2": (-2, 1), "10/7": (10, 7), "-7/3": (-7, 3), "1/10": (1, 10)}.items():
            self.assertEqual(fields(Ratio.read(text)), told)

    def test_texts_of_many_hundred_digits(self):
        digits = "7" * 900
        self.assertEqual(fields(Ratio.read(digits)), (int(digits), 1))
        self.assertEqual(fields(Ratio.read(f"-1/{digits}")), (-1, int(digits)))
        self.assert_raises(BadText, {}, Ratio.read, f"{digits}/{digits}")
        self.assert_raises(BadText, {}, Ratio.read, "0" + digits)
        self.assert_raises(BadText, {}, Ratio.read, digits + "x")

    def test_other_texts(self):
        texts = [
            "", "+1", "02", "-0", "4/2", "3/1", "1/0", "1/-2", "1 /2", " 1", "-", "--1", "-+1", "1-", "1/", "/2",
            "/", "-/2", "1/+2", "1//2", "1/2/3", "1/2/", "/1/2", "00", "-02", "1/02", "02/3", "0/1", "0/2", "-0/2",
            "-0/1", "0/0", "1/00", "-4/2", "6/4", "-6/4", "-3/1", "1 ", "1/ 2", "1/2 ", "- 1", "\n1", "1\n", "1\n/2",
            "1/\n2", "1/2\n", "1_0", "1/1_0", "_1", "1.5", "1e3", "0x1", "a", "1/b", "one", "1\n2", "-1/-2", "-1/0",
        ]  # fmt: skip
        for text in texts:
            self.assert_raises(BadText, {}, Ratio.read, text)
