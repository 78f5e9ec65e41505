"""The inverse and the determinant of a grid to which a weighted row is added."""

from fewcarry.exact.errors import NoInverse
from fewcarry.exact.ratio import Ratio
from fewcarry.grids.grid import Grid
from fewcarry.grids.rows import dot
from fewcarry.grids.symmetry import check_symmetric


def update_factor(g, row, weight):
    """The number by which the determinant of the grid with the inverse `g` is multiplied."""
    check_symmetric(g)
    return Ratio(1) + weight * g.form(row, row)


def updated_inverse(g, row, weight):
    """The inverse of the grid with the inverse `g` and `weight` times the square of the row added."""
    factor = update_factor(g, row, weight)
    if factor.sign() == 0:
        raise NoInverse()
    # By Sherman and Morrison, g * row times itself, scaled, is what is to be taken away.
    pushed = Grid([[dot(line, row)] for line in g.rows], g.over)
    return g - (pushed * pushed.turned()).scaled(weight.divided(factor))
