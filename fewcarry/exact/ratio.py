"""Fractions in lowest terms."""

from math import gcd

from fewcarry.exact.errors import BadNumber, OutOfBounds, ZeroBottom
from fewcarry.exact.whole import is_digits

_MOST_CHARACTERS = 2000
_MOST_EXPONENT = 64


class Ratio:
    """A fraction: `top` over `bottom`, in lowest terms, with `bottom` at least 1."""

    def __init__(self, top, bottom=1):
        if bottom == 0:
            raise ZeroBottom()
        divisor = gcd(top, bottom)
        if bottom < 0:
            divisor = -divisor
        self.top = top // divisor
        self.bottom = bottom // divisor

    @classmethod
    def read(cls, text):
        """The Ratio whose written form the text is."""
        if len(text) > _MOST_CHARACTERS:
            raise BadNumber(text)
        top, slash, bottom = text.partition("/")
        if not is_digits(top.removeprefix("-")):
            raise BadNumber(text)
        if slash and not is_digits(bottom):
            raise BadNumber(text)
        under = int(bottom) if slash else 1
        if under == 0:
            raise BadNumber(text)
        ratio = cls(int(top), under)
        # What is left over, such as 03, -0, 6/4 and 3/1, is read but written otherwise.
        if ratio.text() != text:
            raise BadNumber(text)
        return ratio

    def __add__(self, other):
        top = self.top * other.bottom + other.top * self.bottom
        return Ratio(top, self.bottom * other.bottom)

    def __sub__(self, other):
        top = self.top * other.bottom - other.top * self.bottom
        return Ratio(top, self.bottom * other.bottom)

    def __mul__(self, other):
        return Ratio(self.top * other.top, self.bottom * other.bottom)

    def __pow__(self, other):
        return self.raised(other)

    def __neg__(self):
        return Ratio(-self.top, self.bottom)

    def __abs__(self):
        return Ratio(abs(self.top), self.bottom)

    def __eq__(self, other):
        return isinstance(other, Ratio) and self.top == other.top and self.bottom == other.bottom

    def divided(self, other):
        """The quotient of this Ratio by the other one."""
        return Ratio(self.top * other.bottom, self.bottom * other.top)

    def raised(self, n):
        """The power with the exponent `n`, a whole number from 0 to 64."""
        if n < 0 or n > _MOST_EXPONENT:
            raise OutOfBounds(n)
        top = 1
        bottom = 1
        for _ in range(n):
            top = top * self.top
            bottom = bottom * self.bottom
        return Ratio(top, bottom)

    def compare(self, other):
        """-1, 0 or 1 as this Ratio is less than, equal to or greater than the other one."""
        left = self.top * other.bottom
        right = other.top * self.bottom
        if left < right:
            return -1
        return 1 if left > right else 0

    def sign(self):
        """-1, 0 or 1 as this Ratio is below, equal to or above zero."""
        if self.top < 0:
            return -1
        return 1 if self.top > 0 else 0

    def rounded_down(self):
        """The greatest whole number that is not above this Ratio."""
        return self.top // self.bottom

    def rounded_up(self):
        """The least whole number that is not below this Ratio."""
        return -(-self.top // self.bottom)

    def text(self):
        """The written form, such as -3/4 or 5."""
        if self.bottom == 1:
            return str(self.top)
        return f"{self.top}/{self.bottom}"
