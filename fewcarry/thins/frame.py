"""Independent rows of whole numbers, and the multiples of them that make up other rows."""

from fewcarry.exact.ratio import Ratio
from fewcarry.grids.rows import cleared, dot


class Frame:
    """Keeps independent rows of `width` numbers, each at a place of its own.

    Every row is a sum of multiples of one row for each place: the kept rows,
    and at the places without one some others that make up the rest.
    """

    def __init__(self, width):
        # The inverse of these rows, times the pivot: that is whole, the pivot being their determinant.
        self._table = [[1 if i == j else 0 for j in range(width)] for i in range(width)]
        self._pivot = 1
        self._taken = [False for _ in range(width)]

    def shares_of(self, row):
        """The multiples, one for each place, whose sum is the row: whole numbers, all times the pivot."""
        return [dot(line, row) for line in self._table]

    def multiple(self, share):
        """The Ratio that a share stands for."""
        return Ratio(share, self._pivot)

    def free_place(self, shares):
        """The first place without a kept row that has a share, or None if the kept rows do."""
        for place, share in enumerate(shares):
            if share != 0 and not self._taken[place]:
                return place
        return None

    def keep(self, place, shares):
        """Keep the row with these shares at a place at which it has a share."""
        size = len(shares)
        table = [[*line, share] for line, share in zip(self._table, shares)]
        base = table[place]
        table = [row if k == place else cleared(row, base, size, self._pivot) for k, row in enumerate(table)]
        self._table = [row[:size] for row in table]
        self._pivot = shares[place]
        self._taken[place] = True

    def drop(self, place):
        """Keep the row at this place no longer."""
        self._taken[place] = False
