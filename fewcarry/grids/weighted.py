"""Grids made of weighted rows."""

from fewcarry.exact.bottoms import over_one_bottom
from fewcarry.grids.grid import Grid
from fewcarry.grids.rows import dot, turned_rows


def weighted_square(width, weights, rows):
    """The grid with the sums of weight * row[i] * row[j] over the rows of `width` whole numbers."""
    tops, over = over_one_bottom(weights)
    columns = turned_rows(rows, width)
    weighted = [[top * number for top, number in zip(tops, column)] for column in columns]
    return Grid([[dot(left, right) for right in columns] for left in weighted], over)
