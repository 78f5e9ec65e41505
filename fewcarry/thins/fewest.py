"""The few loads that carry a book, by the shorter one of two ways."""

from fewcarry.exact.errors import BadFactor
from fewcarry.exact.ratio import Ratio
from fewcarry.thins.bars import Bars
from fewcarry.thins.exactly import exact_few, most_squares
from fewcarry.thins.thinning import Thinning


class Few:
    """A book that is said to carry some other one: its energy is from 1 to `factor` times the other's."""

    def __init__(self, book, factor):
        if factor.compare(Ratio(1)) < 0:
            raise BadFactor(factor)
        self.book = book
        self.factor = factor


def fewest(book, q):
    """The exact few if there are surely not more of them than steps, and otherwise those of a thinning."""
    rank = book.rank()
    bars = Bars(q, rank)
    if most_squares(rank) <= bars.steps:
        return Few(exact_few(book), Ratio(1))
    thinning = Thinning(book, q)
    return Few(thinning.few, thinning.factor)
