"""The closest bounds for the energies of two books, and for the determinants of their cores."""

from fewcarry.exact.errors import BadFactor, BadShape, Crossed, OutOfBounds
from fewcarry.exact.ratio import Ratio
from fewcarry.exact.span import Span
from fewcarry.grids.order import at_most, least_factor
from fewcarry.grids.solving import determinant

_MOST_GRAIN = 1000
_MOST_FACTOR = 1000


def least_high(few, whole, grain):
    """The least multiple of 1 / grain from 0 to 1000 that may be the high of a claim, or None."""
    _check(few, whole, grain)
    return least_factor(few.square(), whole.square(), grain, _MOST_FACTOR)


def greatest_low(few, whole, grain):
    """The greatest multiple of 1 / grain from 0 to 1000 that may be the low of a claim."""
    _check(few, whole, grain)
    # What may be a low is found between these: 0 surely is one, and what is too high is none.
    low = 0
    too_high = grain * _MOST_FACTOR + 1
    while too_high - low > 1:
        middle = (low + too_high) // 2
        if at_most(whole.square().scaled(Ratio(middle, grain)), few.square()):
            low = middle
        else:
            too_high = middle
    return Ratio(low, grain)


def determinant_span(few, low, high):
    """The span of the determinants of the cores of all books that `few` carries from `low` to `high`."""
    if low.sign() <= 0:
        raise BadFactor(low)
    if low.compare(high) > 0:
        raise Crossed(low, high)
    x = determinant(few.core())
    rank = few.rank()
    return Span(x.divided(high.raised(rank)), x.divided(low.raised(rank)))


def _check(few, whole, grain):
    if few.width != whole.width:
        raise BadShape()
    if not 1 <= grain <= _MOST_GRAIN:
        raise OutOfBounds(grain)
