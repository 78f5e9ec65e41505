"""Checks that a grid is square, or symmetric."""

from fewcarry.exact.errors import BadShape, NotSymmetric


def check_square(grid):
    """Refuse a grid with unequal height and width."""
    if grid.height != grid.width:
        raise BadShape()


def check_symmetric(grid):
    """Refuse a grid that is not square, then one that is not symmetric."""
    check_square(grid)
    for i in range(grid.height):
        for j in range(grid.width):
            if grid.rows[i][j] != grid.rows[j][i]:
                raise NotSymmetric(i, j)
