"""Sums of squares, which show that a grid is nowhere below zero."""

from fewcarry.exact.bottoms import over_one_bottom
from fewcarry.exact.errors import BadShape, BadTerm, BelowZero, OutOfBounds
from fewcarry.exact.ratio import Ratio
from fewcarry.grids.peeling import peeled
from fewcarry.grids.symmetry import check_symmetric
from fewcarry.grids.weighted import weighted_square

_MOST_WIDTH = 64


class Squares:
    """A sum of squares: `terms` holds pairs of a coefficient above zero and a row of Ratios."""

    def __init__(self, width, terms):
        if not 0 <= width <= _MOST_WIDTH:
            raise OutOfBounds(width)
        for place, (coefficient, row) in enumerate(terms):
            if coefficient.sign() <= 0:
                raise BadTerm(place)
            if len(row) != width:
                raise BadShape()
        self.width = width
        self.terms = tuple([(coefficient, tuple(row)) for coefficient, row in terms])

    def __len__(self):
        return len(self.terms)

    def summed(self):
        """The grid whose worth is the sum of the squares."""
        weights = []
        rows = []
        for coefficient, row in self.terms:
            tops, bottom = over_one_bottom(row)
            weights.append(coefficient.divided(Ratio(bottom * bottom)))
            rows.append(tops)
        return weighted_square(self.width, weights, rows)


def squares_of(grid):
    """The squares whose sum is the worth of the grid, from taking its places in ascending order."""
    check_symmetric(grid)
    taken, direction = peeled(grid.rows)
    if direction is not None:
        raise BelowZero(direction)
    terms = []
    over = grid.over
    for place, line in taken:
        pivot = line[place]
        terms.append((Ratio(pivot, over), [Ratio(number, pivot) for number in line]))
        # The rows that were left behind this one have been multiplied by its pivot.
        over = pivot * grid.over
    return Squares(grid.width, terms)
