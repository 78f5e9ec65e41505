"""Claims judged, which takes some searching, and certificates checked, which takes none."""

from fewcarry.certificates.certificate import Certificate
from fewcarry.exact.errors import BelowZero, NotCarried
from fewcarry.grids.squares import squares_of


def judge(claim):
    """A certificate that fits the claim; there is none if the claim does not hold."""
    low_squares = _squares_of_side("low", claim.low_grid())
    return Certificate(low_squares, _squares_of_side("high", claim.high_grid()))


def check(claim, certificate):
    """Whether the certificate fits the claim."""
    # The grids of squares of another width are of another size, and so not equal.
    return (certificate.low_squares.summed() == claim.low_grid()
            and certificate.high_squares.summed() == claim.high_grid())


def _squares_of_side(side, grid):
    try:
        return squares_of(grid)
    except BelowZero as error:
        raise NotCarried(side, error.direction) from None
