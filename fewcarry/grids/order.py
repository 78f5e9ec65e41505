"""Which of two grids is worth more, in every direction."""

from fewcarry.exact.errors import OutOfBounds
from fewcarry.exact.ratio import Ratio
from fewcarry.grids.peeling import peeled
from fewcarry.grids.squares import squares_of
from fewcarry.grids.symmetry import check_symmetric

_MOST_GRAIN = 1000
_MOST_FACTOR = 1000


def at_most(a, b):
    """Whether the worth of `a` is at most the worth of `b` in every direction."""
    check_symmetric(a)
    check_symmetric(b)
    return _is_nowhere_below_zero(b - a)


def is_above(grid):
    """Whether the worth is above zero in every direction that is not all zeros."""
    check_symmetric(grid)
    taken, direction = peeled(grid.rows)
    return direction is None and len(taken) == grid.height


def least_factor(a, b, grain, most):
    """The least multiple of 1 / grain from 0 to most by which `b` is worth at least `a`, or None."""
    check_symmetric(a)
    # Only its errors are wanted: those of the shape of `b`, and BelowZero.
    squares_of(b)
    if not 1 <= grain <= _MOST_GRAIN:
        raise OutOfBounds(grain)
    if not 0 <= most <= _MOST_FACTOR:
        raise OutOfBounds(most)
    low = 0
    high = grain * most
    # This also refuses unequal sizes, of which there is no difference.
    if not _is_carried(a, b, Ratio(high, grain)):
        return None
    while low < high:
        middle = (low + high) // 2
        if _is_carried(a, b, Ratio(middle, grain)):
            high = middle
        else:
            low = middle + 1
    return Ratio(low, grain)


def _is_carried(a, b, factor):
    return _is_nowhere_below_zero(b.scaled(factor) - a)


def _is_nowhere_below_zero(grid):
    return peeled(grid.rows)[1] is None
