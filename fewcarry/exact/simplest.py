"""The simplest fraction between two others."""

from fewcarry.exact.errors import Crossed
from fewcarry.exact.ratio import Ratio


def simplest(low, high):
    """The Ratio from `low` to `high` with the least bottom and then the top nearest to zero."""
    if low.compare(high) > 0:
        raise Crossed(low, high)
    if low.sign() > 0:
        return _simplest_above_zero(low, high)
    if high.sign() < 0:
        return -_simplest_above_zero(-high, -low)
    return Ratio(0)


def _simplest_above_zero(low, high):
    # The ends are a / b and c / d. They are the ends of what is still searched for,
    # a number x that stands for (top * x + old_top) / (bottom * x + old_bottom).
    a, b, c, d = low.top, low.bottom, high.top, high.bottom
    top, old_top, bottom, old_bottom = 1, 0, 0, 1
    least = -(-a // b)
    while least * d > c:
        # No whole number lies between the ends, so x is whole + 1 / y, and y is searched for.
        whole = least - 1
        top, old_top = top * whole + old_top, top
        bottom, old_bottom = bottom * whole + old_bottom, bottom
        a, b, c, d = d, c - whole * d, b, a - whole * b
        least = -(-a // b)
    return Ratio(top * least + old_top, bottom * least + old_bottom)
