"""Tables of fractions, kept as rows of whole numbers over one whole number."""

from math import lcm

from fewcarry.exact.bottoms import common_bottom
from fewcarry.exact.errors import BadPlace, BadShape, OutOfBounds
from fewcarry.exact.ratio import Ratio
from fewcarry.grids.rows import common_divisor, dot, turned_rows

_MOST_SIZE = 64


class Grid:
    """A table of fractions: the entries are the numbers in `rows`, divided by `over`."""

    def __init__(self, rows, over=1):
        _check_shape(rows)
        if over < 1:
            raise OutOfBounds(over)
        divisor = _shared_divisor(rows, over)
        self.rows = tuple([tuple([number // divisor for number in row]) for row in rows])
        self.over = over // divisor
        self.height = len(self.rows)
        self.width = len(self.rows[0]) if self.rows else 0

    @classmethod
    def of(cls, ratios):
        """The grid with these entries, a list of rows of Ratios."""
        # Ahead of the common bottom, which many Ratios of a refused shape would make very long.
        _check_shape(ratios)
        over = common_bottom([ratio for row in ratios for ratio in row])
        return cls([[ratio.top * (over // ratio.bottom) for ratio in row] for row in ratios], over)

    @staticmethod
    def unit(size):
        """The grid with 1 where row and column are equal and 0 elsewhere."""
        if size < 0 or size > _MOST_SIZE:
            raise BadShape()
        return Grid([[1 if i == j else 0 for j in range(size)] for i in range(size)])

    def __add__(self, other):
        return _added(self, other, 1)

    def __sub__(self, other):
        return _added(self, other, -1)

    def __mul__(self, other):
        if self.width != other.height:
            raise BadShape()
        columns = turned_rows(other.rows, other.width)
        rows = [[dot(row, column) for column in columns] for row in self.rows]
        return Grid(rows, self.over * other.over)

    def __eq__(self, other):
        return isinstance(other, Grid) and self.rows == other.rows and self.over == other.over

    def __getitem__(self, at):
        i, j = at
        if not 0 <= i < self.height or not 0 <= j < self.width:
            raise BadPlace((i, j))
        return Ratio(self.rows[i][j], self.over)

    # Without this, a loop would ask __getitem__ for single places.
    def __iter__(self):
        raise TypeError("a grid is not iterated over")

    def scaled(self, ratio):
        """The grid with all entries multiplied by a Ratio."""
        rows = [[number * ratio.top for number in row] for row in self.rows]
        return Grid(rows, self.over * ratio.bottom)

    def turned(self):
        """The grid with rows and columns exchanged."""
        return Grid(turned_rows(self.rows, self.width), self.over)

    def part(self, row_places, column_places):
        """The grid of the entries in these rows and columns, in these orders."""
        _check_places(row_places, self.height)
        _check_places(column_places, self.width)
        if len(row_places) > _MOST_SIZE or len(column_places) > _MOST_SIZE:
            raise BadShape()
        rows = [[self.rows[i][j] for j in column_places] for i in row_places]
        return Grid(rows, self.over)

    def form(self, left, right):
        """The sum of left[i] * entry * right[j] over all entries, a Ratio."""
        if len(left) != self.height or len(right) != self.width:
            raise BadShape()
        return Ratio(dot(left, [dot(row, right) for row in self.rows]), self.over)

    def trace(self):
        """The sum of the entries whose row and column are equal, a Ratio."""
        if self.height != self.width:
            raise BadShape()
        return Ratio(sum([self.rows[k][k] for k in range(self.height)]), self.over)


def _check_shape(rows):
    if len(rows) > _MOST_SIZE:
        raise BadShape()
    for row in rows:
        if len(row) > _MOST_SIZE or len(row) != len(rows[0]):
            raise BadShape()


def _check_places(places, many):
    for place in places:
        if not 0 <= place < many:
            raise BadPlace(place)


def _shared_divisor(rows, over):
    divisor = over
    for row in rows:
        # Row by row from `over` on, the divisor is mostly 1 soon, and the rest is quick.
        divisor = common_divisor([divisor, *row])
    return divisor


def _added(a, b, sign):
    if a.height != b.height or a.width != b.width:
        raise BadShape()
    over = lcm(a.over, b.over)
    p = over // a.over
    q = sign * (over // b.over)
    rows = [[p * x + q * y for x, y in zip(left, right)] for left, right in zip(a.rows, b.rows)]
    return Grid(rows, over)
