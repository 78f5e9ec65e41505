"""Spans: all numbers from one fraction to another one."""

from fewcarry.exact.errors import Apart, Crossed, ZeroBottom
from fewcarry.exact.extremes import greater, lesser
from fewcarry.exact.ratio import Ratio


class Span:
    """The set of all numbers from the Ratio `low` to the Ratio `high`, both included."""

    def __init__(self, low, high):
        if low.compare(high) > 0:
            raise Crossed(low, high)
        self.low = low
        self.high = high

    @staticmethod
    def point(ratio):
        """The span of one number."""
        return Span(ratio, ratio)

    def __add__(self, other):
        return Span(self.low + other.low, self.high + other.high)

    def __sub__(self, other):
        return Span(self.low - other.high, self.high - other.low)

    def __mul__(self, other):
        return _around([x * y for x in (self.low, self.high) for y in (other.low, other.high)])

    def __neg__(self):
        return Span(-self.high, -self.low)

    def __and__(self, other):
        low = greater(self.low, other.low)
        high = lesser(self.high, other.high)
        if low.compare(high) > 0:
            raise Apart()
        return Span(low, high)

    def __eq__(self, other):
        return isinstance(other, Span) and self.low == other.low and self.high == other.high

    def __contains__(self, x):
        return self.low.compare(x) <= 0 and self.high.compare(x) >= 0

    def divided(self, other):
        """The span of the quotients of a number of this span by one of the other."""
        if Ratio(0) in other:
            raise ZeroBottom()
        return _around([x.divided(y) for x in (self.low, self.high) for y in (other.low, other.high)])

    def least(self, other):
        """The span of the lesser of a number of this span and one of the other."""
        return Span(lesser(self.low, other.low), lesser(self.high, other.high))

    def greatest(self, other):
        """The span of the greater of a number of this span and one of the other."""
        return Span(greater(self.low, other.low), greater(self.high, other.high))

    def length(self):
        """The high end less the low end, a Ratio."""
        return self.high - self.low

    def at_most(self, other):
        """Whether the numbers of this span are at most those of the other: True, False or None."""
        if self.high.compare(other.low) <= 0:
            return True
        if self.low.compare(other.high) > 0:
            return False
        return None

    def text(self):
        """The written form, such as [1/2, 3]."""
        return f"[{self.low.text()}, {self.high.text()}]"


def _around(ratios):
    # Products and quotients take their extremes at the ends of the spans.
    low = high = ratios[0]
    for ratio in ratios:
        low = lesser(low, ratio)
        high = greater(high, ratio)
    return Span(low, high)
