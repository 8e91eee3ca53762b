"""Exact fractions."""

from math import gcd, lcm

from dearestshelf.errors import BadText, ZeroBottom


class Ratio:
    """An exact fraction of two whole numbers, in lowest terms, with a bottom of at least 1."""

    def __init__(self, top, bottom=1):
        if bottom == 0:
            raise ZeroBottom("the bottom of a fraction is 0")
        divisor = gcd(top, bottom)
        if bottom < 0:
            divisor = -divisor
        self.top = top // divisor
        self.bottom = bottom // divisor

    @staticmethod
    def read(text):
        """Return the Ratio whose written form is the text."""
        top, slash, bottom = text.partition("/")
        if slash == "":
            bottom = "1"
        if not (top.removeprefix("-").isdecimal() and bottom.isdecimal()):
            raise BadText("a fraction has digits on either side of its slash")
        if int(bottom) == 0:
            raise BadText("the bottom of a written fraction is 0")
        ratio = Ratio(int(top), int(bottom))
        # Only one text is the written form of a number: 4/2, 02 and -0 are others for the same one.
        if str(ratio) != text:
            raise BadText("a fraction is written in lowest terms without needless signs and digits")
        return ratio

    def over(self, other):
        """Return the exact quotient."""
        divisor = _as_ratio(other)
        return Ratio(self.top * divisor.bottom, self.bottom * divisor.top)

    def __str__(self):
        if self.bottom == 1:
            return str(self.top)
        return f"{self.top}/{self.bottom}"

    def __add__(self, other):
        addend = _as_ratio(other)
        return Ratio(self.top * addend.bottom + addend.top * self.bottom, self.bottom * addend.bottom)

    def __radd__(self, other):
        return self + other

    def __sub__(self, other):
        return self + -_as_ratio(other)

    def __rsub__(self, other):
        return -self + other

    def __mul__(self, other):
        factor = _as_ratio(other)
        return Ratio(self.top * factor.top, self.bottom * factor.bottom)

    def __rmul__(self, other):
        return self * other

    def __floordiv__(self, other):
        quotient = self.over(other)
        return quotient.top // quotient.bottom

    def __mod__(self, other):
        return self - _as_ratio(other) * (self // other)

    def __neg__(self):
        return Ratio(-self.top, self.bottom)

    def __abs__(self):
        return Ratio(abs(self.top), self.bottom)

    def __bool__(self):
        return bool(self.top)

    def __eq__(self, other):
        return isinstance(other, Ratio) and self.top == other.top and self.bottom == other.bottom

    def __lt__(self, other):
        return _gap(self, other) < 0

    def __le__(self, other):
        return _gap(self, other) <= 0

    def __gt__(self, other):
        return _gap(self, other) > 0

    def __ge__(self, other):
        return _gap(self, other) >= 0


def common_divisor(numbers):
    """Return the greatest whole number that divides all these numbers, not all of them 0."""
    divisor = 0
    for number in numbers:
        divisor = gcd(divisor, number)
    return divisor


def common_bottom(ratios):
    """Return the least whole number above 0 that makes all these Ratios whole if it multiplies them."""
    bottom = 1
    for ratio in ratios:
        bottom = lcm(bottom, ratio.bottom)
    return bottom


def whole_proportion(ratios):
    """Return whole numbers in the proportion of these Ratios, not all of them 0, which nothing above 1 divides all."""
    bottom = common_bottom(ratios)
    numbers = [ratio.top * (bottom // ratio.bottom) for ratio in ratios]
    divisor = common_divisor(numbers)
    return [number // divisor for number in numbers]


def _as_ratio(number):
    """Return the Ratio of a Ratio or a whole number."""
    if isinstance(number, Ratio):
        return number
    return Ratio(number)


def _gap(ratio, other):
    """Return a whole number that is below, equal to or above zero as `ratio - other` is."""
    subtrahend = _as_ratio(other)
    return ratio.top * subtrahend.bottom - subtrahend.top * ratio.bottom
