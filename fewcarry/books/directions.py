"""Directions that show the pulls of loads."""

from fewcarry.exact.errors import NoEnergy
from fewcarry.grids.grid import Grid
from fewcarry.grids.rows import without_divisor
from fewcarry.grids.solving import solution


def strongest_direction(book, label):
    """A direction in which the share that the load has of the energy is its pull."""
    load = book.load(label)
    if not any([number != 0 for number in load.numbers]):
        raise NoEnergy(label)
    # In the independent columns it is the inverse of the core times the load (Cauchy, Schwarz).
    column = solution(book.core(), Grid([[number] for number in book.reduced(label)]))
    direction = [0 for _ in load.numbers]
    for place, row in zip(book.columns(), column.rows):
        direction[place] = row[0]
    return without_divisor(direction)
