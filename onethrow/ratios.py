"""Ratios: exact fractions of integers."""

from math import gcd, lcm

from onethrow.errors import BadNumber, BadText
from onethrow.words import decimal, is_positive, is_signed


class Ratio:
    """A fraction of two integers, kept in lowest terms."""

    def __init__(self, top, bottom):
        if bottom == 0:
            raise BadNumber(0)
        divisor = gcd(top, bottom)
        if bottom < 0:
            divisor = -divisor
        self.top = top // divisor
        self.bottom = bottom // divisor

    @classmethod
    def whole(cls, n):
        """Return an integer as a ratio."""
        return cls(n, 1)

    @classmethod
    def read(cls, text):
        """Return the ratio of a text, an integer or two of them with a stroke between."""
        top, stroke, bottom = text.partition("/")
        if not is_signed(top):
            raise BadText(0)
        if stroke == "":
            return cls(int(top), 1)
        if not is_positive(bottom):
            raise BadText(1)
        return cls(int(top), int(bottom))

    def quotient(self, other):
        """Return this ratio divided by another one."""
        if other.top == 0:
            raise BadNumber(0)
        return Ratio(self.top * other.bottom, self.bottom * other.top)

    def under(self, other):
        """Tell if this ratio is less than another one."""
        return self.top * other.bottom < other.top * self.bottom

    def __add__(self, other):
        return Ratio(self.top * other.bottom + other.top * self.bottom, self.bottom * other.bottom)

    def __sub__(self, other):
        return Ratio(self.top * other.bottom - other.top * self.bottom, self.bottom * other.bottom)

    def __mul__(self, other):
        return Ratio(self.top * other.top, self.bottom * other.bottom)

    def __neg__(self):
        return Ratio(-self.top, self.bottom)

    def __eq__(self, other):
        return isinstance(other, Ratio) and self.top == other.top and self.bottom == other.bottom

    def __bool__(self):
        return bool(self.top)

    def __str__(self):
        if self.bottom == 1:
            return f"{decimal(self.top)}"
        return f"{decimal(self.top)}/{decimal(self.bottom)}"


def total(ratios):
    """Return the sum of a list of ratios."""
    found = Ratio.whole(0)
    for ratio in ratios:
        found = found + ratio
    return found


def greatest(ratios):
    """Return the greatest one of a list of at least one ratio."""
    best = ratios[0]
    for ratio in ratios:
        if best.under(ratio):
            best = ratio
    return best


def scaled(ratios):
    """Return integers in the proportion of some ratios, and the integer that stands for 1 among them."""
    whole = 1
    for ratio in ratios:
        whole = lcm(whole, ratio.bottom)
    return ([ratio.top * (whole // ratio.bottom) for ratio in ratios], whole)
