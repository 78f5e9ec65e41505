"""Corners: the loads that span the most, and the shares of them that make up the other loads."""

from fewcarry.grids.grid import Grid
from fewcarry.grids.picking import all_sets
from fewcarry.grids.rows import determinant_of
from fewcarry.grids.solving import solution


def corner_loads(book):
    """The labels of the first set of as many loads as the rank with the greatest determinant."""
    rows = [book.reduced(load.label) for load in book]
    best = ()
    most = 0
    for places in all_sets(len(book), book.rank()):
        size = abs(determinant_of([rows[place] for place in places]))
        if size > most:
            best = places
            most = size
    return tuple([book.loads[place].label for place in best])


def corner_shares(book, label):
    """The multiples of the corner loads, one for each, whose sum is the load."""
    row = book.reduced(label)
    corners = Grid([book.reduced(corner) for corner in corner_loads(book)])
    column = solution(corners.turned(), Grid([[number] for number in row]))
    return [column[k, 0] for k in range(column.height)]
