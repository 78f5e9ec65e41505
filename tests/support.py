"""What several tests need."""

from fractions import Fraction
from itertools import product
from random import Random

from fewcarry.books.book import Book
from fewcarry.books.load import Load
from fewcarry.exact.errors import CarryError
from fewcarry.exact.ratio import Ratio
from fewcarry.exact.span import Span
from fewcarry.grids.grid import Grid
from fewcarry.nets.line import Line
from fewcarry.nets.net import Net


def ratio(text):
    return Ratio.read(text)


def ratios(*texts):
    return [Ratio.read(text) for text in texts]


def texts(items):
    return [item.text() for item in items]


def span(low, high):
    return Span(Ratio.read(low), Ratio.read(high))


def fraction(item):
    return Fraction(item.top, item.bottom)


def of_fraction(number):
    return Ratio(number.numerator, number.denominator)


def entries(grid):
    """The entries of a grid as lists of Fractions."""
    return [[Fraction(number, grid.over) for number in row] for row in grid.rows]


def grid_of(rows):
    """The grid of lists of Fractions."""
    return Grid.of([[of_fraction(number) for number in row] for row in rows])


def turned(rows):
    return [list(column) for column in zip(*rows)]


def product_of(left, right):
    columns = turned(right)
    return [[sum((x * y for x, y in zip(row, column)), Fraction(0)) for column in columns] for row in left]


def determinant_of(rows):
    """The determinant by the first row, slow and plain."""
    if not rows:
        return Fraction(1)
    total = Fraction(0)
    for j, number in enumerate(rows[0]):
        if number:
            rest = [row[:j] + row[j + 1:] for row in rows[1:]]
            total += (-1) ** j * number * determinant_of(rest)
    return total


def random_grids(seed, many, height, width, most=4, mosts_over=6):
    """Grids of small numbers, the same ones in every run."""
    random = Random(seed)
    return [
        Grid([[random.randint(-most, most) for _ in range(width)] for _ in range(height)],
             random.randint(1, mosts_over))
        for _ in range(many)
    ]


def failure(call, *given):
    """The class of the error of a call, and its fields as a dict."""
    try:
        call(*given)
    except CarryError as error:
        return error.__class__, vars(error)
    raise AssertionError("no error")


def load(label, weight, *numbers):
    return Load(label, Ratio.read(weight), list(numbers))


def rows_of(book):
    """The loads of a book as pairs of a weight, a Fraction, and a list of numbers."""
    return [(fraction(item.weight), list(item.numbers)) for item in book.loads]


def energy_of(book, direction):
    """The energy of a book, a Fraction, by its definition."""
    return sum((weight * sum(x * y for x, y in zip(numbers, direction)) ** 2
                for weight, numbers in rows_of(book)), Fraction(0))


def random_books(seed, many, width, most_loads=8, most=3):
    """Books with some parallel loads, loads of zeros and dependent columns, the same ones in every run."""
    random = Random(seed)
    made = []
    for _ in range(many):
        base = [[random.randint(-most, most) for _ in range(width)] for _ in range(random.randint(0, width))]
        loads = []
        for k in range(random.randint(0, most_loads)):
            shares = [random.randint(-2, 2) for _ in base]
            numbers = [sum(share * row[j] for share, row in zip(shares, base)) for j in range(width)]
            if random.random() < 0.3 and loads:
                factor = random.choice((-2, -1, 1, 2, 3))
                numbers = [factor * number for number in random.choice(loads).numbers]
            loads.append(Load("a%d" % k, Ratio(random.randint(1, 9), random.randint(1, 5)), numbers))
        made.append(Book(width, loads))
    return made


def directions(width, reach=2):
    """All directions of small numbers."""
    return [list(numbers) for numbers in product(range(-reach, reach + 1), repeat=width)]


def random_nets(seed, many, most_nodes=5, most_lines=7):
    """Nets with some pieces, rings and several lines between the same nodes, the same ones in every run."""
    random = Random(seed)
    made = []
    for _ in range(many):
        nodes = random.sample(["u", "v", "w", "x", "y", "z", "n1", "n2"], random.randint(2, most_nodes))
        lines = []
        for k in range(random.randint(0, most_lines)):
            first, second = random.sample(nodes, 2)
            lines.append(Line("e%d" % k, first, second, Ratio(random.randint(1, 9), random.randint(1, 4))))
        made.append(Net(nodes, lines))
    return made
