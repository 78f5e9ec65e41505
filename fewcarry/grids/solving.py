"""Determinants, inverses, solutions, and the independent columns of grids."""

from fewcarry.exact.errors import BadPlace, BadShape, NoInverse
from fewcarry.exact.ratio import Ratio
from fewcarry.grids.grid import Grid
from fewcarry.grids.rows import determinant_of, eliminated
from fewcarry.grids.symmetry import check_square


def determinant(grid):
    """The determinant, a Ratio; 1 for the grid without rows."""
    check_square(grid)
    bottom = 1
    for _ in range(grid.height):
        bottom = bottom * grid.over
    return Ratio(determinant_of(grid.rows), bottom)


def inverse(grid):
    """The grid whose product with this one is the unit grid."""
    return solution(grid, Grid.unit(grid.height))


def solution(grid, right):
    """The product of the inverse of `grid` with the grid `right`."""
    check_square(grid)
    if grid.height != right.height:
        raise BadShape()
    size = grid.height
    joined = [row + beside for row, beside in zip(grid.rows, right.rows)]
    table, places, pivot = eliminated(joined, size)
    if len(places) < size:
        raise NoInverse()
    # The pivot may be below zero, but what a grid is over may not.
    times = grid.over if pivot > 0 else -grid.over
    rows = [[times * number for number in row[size:]] for row in table]
    return Grid(rows, abs(pivot) * right.over)


def independent_columns(grid):
    """The places of the columns that are no mixture of those ahead of them, in ascending order."""
    return eliminated(grid.rows, grid.width)[1]


def rank(grid):
    """The number of independent columns."""
    return len(independent_columns(grid))


def mixture(grid, column):
    """The multiples of the independent columns, one for each, whose sum is the column."""
    if not 0 <= column < grid.width:
        raise BadPlace(column)
    table, places, pivot = eliminated(grid.rows, grid.width)
    return [Ratio(table[k][column], pivot) for k in range(len(places))]
