"""Books with parallel loads put together, and books written in other columns."""

from fewcarry.books.book import Book
from fewcarry.books.load import MOST_WIDTH, Load
from fewcarry.exact.errors import BadShape, NotWhole
from fewcarry.exact.ratio import Ratio
from fewcarry.grids.rows import common_divisor, dot, turned_rows, without_divisor


def condensed(book):
    """The book with each set of parallel loads put together into the first one of them."""
    firsts = {}
    weights = {}
    for load in book:
        length = common_divisor(load.numbers)
        # A load of zeros has no energy in any direction.
        if length == 0:
            continue
        line = _line_of(load.numbers)
        if line not in firsts:
            firsts[line] = load
            weights[load.label] = load.weight
        else:
            first = firsts[line]
            multiple = Ratio(length, common_divisor(first.numbers))
            weights[first.label] = weights[first.label] + load.weight * multiple * multiple
    return book.reweighed(weights)


def recast(book, grid):
    """The book whose numbers are, load by load, the row of the numbers times the grid."""
    if grid.height != book.width or not 1 <= grid.width <= MOST_WIDTH:
        raise BadShape()
    if grid.over != 1:
        raise NotWhole()
    columns = turned_rows(grid.rows, grid.width)
    loads = []
    for load in book:
        loads.append(Load(load.label, load.weight, [dot(load.numbers, column) for column in columns]))
    return Book(grid.width, loads)


def _line_of(numbers):
    # Of the two shortest rows on the line of the numbers, the one whose first number that is
    # not 0 is above 0.
    shortest = without_divisor(numbers)
    return max(tuple(shortest), tuple([-number for number in shortest]))
