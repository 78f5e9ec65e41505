"""What several tests need."""

from fractions import Fraction
from random import Random

from fewcarry.exact.ratio import Ratio
from fewcarry.exact.span import Span
from fewcarry.grids.grid import Grid


def ratio(text):
    return Ratio.read(text)


def ratios(*texts):
    return [Ratio.read(text) for text in texts]


def texts(items):
    return [item.text() for item in items]


def span(low, high):
    return Span(Ratio.read(low), Ratio.read(high))


def fraction(item):
    return Fraction(item.top, item.bottom)


def of_fraction(number):
    return Ratio(number.numerator, number.denominator)


def entries(grid):
    """The entries of a grid as lists of Fractions."""
    return [[Fraction(number, grid.over) for number in row] for row in grid.rows]


def grid_of(rows):
    """The grid of lists of Fractions."""
    return Grid.of([[of_fraction(number) for number in row] for row in rows])


def turned(rows):
    return [list(column) for column in zip(*rows)]


def product_of(left, right):
    columns = turned(right)
    return [[sum((x * y for x, y in zip(row, column)), Fraction(0)) for column in columns] for row in left]


def determinant_of(rows):
    """The determinant by the first row, slow and plain."""
    if not rows:
        return Fraction(1)
    total = Fraction(0)
    for j, number in enumerate(rows[0]):
        if number:
            rest = [row[:j] + row[j + 1:] for row in rows[1:]]
            total += (-1) ** j * number * determinant_of(rest)
    return total


def random_grids(seed, many, height, width, most=4, mosts_over=6):
    """Grids of small numbers, the same ones in every run."""
    random = Random(seed)
    return [
        Grid([[random.randint(-most, most) for _ in range(width)] for _ in range(height)],
             random.randint(1, mosts_over))
        for _ in range(many)
    ]
