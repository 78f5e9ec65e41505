"""Sets of as many loads as there are given columns, each solved for the shares that cost it nothing."""

from fewcarry.exact.errors import Dependent
from fewcarry.exact.ratio import Ratio
from fewcarry.fits.fit import check_given
from fewcarry.grids.picking import all_sets
from fewcarry.grids.rows import eliminated


class SolvedSet:
    """A set of loads: its labels, its volume, and the shares of its exact fit, None if the volume is 0."""

    def __init__(self, loads):
        size = len(loads)
        # Behind the given numbers stands the wanted one, which is solved for along with them.
        table, places, pivot = eliminated([load.numbers for load in loads], size)
        self.labels = tuple([load.label for load in loads])
        self.volume = Ratio(0)
        self.shares = None
        if len(places) == size:
            self.volume = _volume(loads, pivot)
            self.shares = tuple([Ratio(row[size], pivot) for row in table])


def solved_sets(book):
    """All sets of as many loads as there are given columns, which must be independent."""
    check_given(book)
    columns = book.columns()
    size = book.width - 1
    for column in range(size):
        if column not in columns:
            raise Dependent(column)
    return [SolvedSet([book.loads[place] for place in places]) for places in all_sets(len(book), size)]


def _volume(loads, determinant):
    volume = Ratio(determinant * determinant)
    for load in loads:
        volume = volume * load.weight
    return volume
