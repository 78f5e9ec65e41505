"""The Chebyshev polynomials of both kinds at a number."""

from fewcarry.exact.errors import OutOfBounds
from fewcarry.exact.ratio import Ratio

MOST_MANY = 100


def first_kind(value, many):
    """The polynomial of the first kind with the number `many` at the Ratio `value`."""
    return _at(value, many, value.top)


def second_kind(value, many):
    """The polynomial of the second kind with the number `many` at the Ratio `value`."""
    return _at(value, many, 2 * value.top)


def check_many(many):
    """Refuse a number of rounds, or of a polynomial, that is not from 0 to 100."""
    if not 0 <= many <= MOST_MANY:
        raise OutOfBounds(many)


def _at(value, many, top_of_next):
    check_many(many)
    # All numbers are kept as whole numbers over a power of the bottom of the value,
    # so there is only one fraction to be brought to its lowest terms.
    twice = 2 * value.top
    square = value.bottom * value.bottom
    top, next_top, bottom = 1, top_of_next, 1
    for _ in range(many):
        top, next_top = next_top, twice * next_top - square * top
        bottom = bottom * value.bottom
    return Ratio(top, bottom)
