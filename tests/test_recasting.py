"""Point 24: parallel loads put together, and books in other columns."""

import unittest
from fractions import Fraction
from random import Random

from fewcarry.books.book import Book
from fewcarry.books.recasting import condensed, recast
from fewcarry.exact.errors import BadShape, NotWhole, OutOfBounds
from fewcarry.grids.grid import Grid
from fewcarry.grids.solving import determinant
from tests.support import directions, failure, fraction, load, random_books, random_grids


def books():
    return [book for width in (1, 2, 3) for book in random_books(240 + width, 40, width, 10)]


def multiple(numbers, others):
    """The Fraction m with numbers = m * others, or None."""
    lead = [k for k, number in enumerate(others) if number][0]
    m = Fraction(numbers[lead], others[lead])
    return m if all(x == m * y for x, y in zip(numbers, others)) else None


def condensed_by_definition(book):
    kept = []
    for item in book:
        if not any(item.numbers):
            continue
        for pair in kept:
            m = multiple(item.numbers, pair[0].numbers)
            if m is not None:
                pair[1] += fraction(item.weight) * m ** 2
                break
        else:
            kept.append([item, fraction(item.weight)])
    return [(item.label, weight, item.numbers) for item, weight in kept]


class Condensed(unittest.TestCase):
    def test_known(self):
        book = Book(2, [load("z", "9", 0, 0), load("a", "1", 2, 4), load("b", "1/2", 3, 1), load("c", "3", -1, -2),
                        load("d", "4", 3, 6), load("e", "1", -6, -2), load("f", "1", 1, 2)])
        got = condensed(book)
        self.assertIs(type(got), Book)
        self.assertEqual(got.text(), "book 2\na 11: 2 4\nb 9/2: 3 1")
        self.assertEqual(len(book), 7)

    def test_multiples(self):
        for first, second, weight in (((4,), (6,), "13/4"), ((6,), (4,), "13/9"), ((-2,), (2,), "2"), ((1,), (-3,), "10")):
            book = Book(1, [load("a", "1", *first), load("b", "1", *second)])
            self.assertEqual(condensed(book).load("a").weight.text(), weight)
            self.assertEqual(len(condensed(book)), 1)

    def test_loads_of_zeros_and_no_loads(self):
        self.assertEqual(condensed(Book(3, [])), Book(3, []))
        self.assertEqual(condensed(Book(2, [load("a", "1", 0, 0), load("b", "1", 0, 0)])), Book(2, []))

    def test_loads_that_are_not_parallel_stay(self):
        book = Book(3, [load("b", "1", 1, 2, 0), load("a", "1", 1, -2, 0), load("c", "1", -1, 2, 1),
                        load("d", "1", 0, 1, 0), load("e", "1", 0, 0, 1), load("f", "1", 2, 4, 1)])
        self.assertEqual(condensed(book), book)

    def test_by_definition(self):
        put_together = 0
        for book in books():
            got = condensed(book)
            self.assertEqual([(item.label, fraction(item.weight), item.numbers) for item in got],
                             condensed_by_definition(book))
            put_together += len(got) < len(book)
            self.assertEqual(got.square(), book.square())
        self.assertGreater(put_together, 30)


class Recast(unittest.TestCase):
    def test_known(self):
        book = Book(2, [load("a", "1/2", 1, 2), load("b", "3", 0, -1)])
        got = recast(book, Grid([[1, 0, 2], [0, 1, -3]]))
        self.assertIs(type(got), Book)
        self.assertEqual(got.text(), "book 3\na 1/2: 1 2 -4\nb 3: 0 -1 3")
        self.assertEqual(recast(book, Grid([[5], [7]])).text(), "book 1\na 1/2: 19\nb 3: -7")
        self.assertEqual(book.text(), "book 2\na 1/2: 1 2\nb 3: 0 -1")
        self.assertEqual(recast(book, Grid.unit(2)), book)
        self.assertEqual(recast(Book(2, []), Grid([[1] * 12, [2] * 12])), Book(12, []))

    def test_energy_pulls_and_rank(self):
        random = Random(24)
        with_inverse = 0
        for width in (1, 2, 3):
            for book, grid in zip(random_books(241, 40, width), random_grids(242, 40, width, width, 3, 1)):
                got = recast(book, grid)
                for direction in directions(width, 1):
                    inner = [sum(x * y for x, y in zip(row, direction)) for row in grid.rows]
                    self.assertEqual(got.energy(direction), book.energy(inner))
                if determinant(grid).sign():
                    with_inverse += 1
                    self.assertEqual((got.rank(), got.pulls()), (book.rank(), book.pulls()))
                wide = Grid([[random.randint(-2, 2) for _ in range(5)] for _ in range(width)])
                self.assertEqual(recast(book, wide).square(), wide.turned() * book.square() * wide)
        self.assertGreater(with_inverse, 60)

    def test_shape(self):
        book = Book(2, [load("a", "1", 1, 2)])
        for grid in (Grid([]), Grid([[1, 2]]), Grid([[1], [2], [3]]), Grid([[], []]), Grid([[1] * 13] * 2),
                     Grid([[1] * 64] * 2), Grid([[1, 1]], 2)):
            self.assertEqual(failure(recast, book, grid), (BadShape, {}))
            self.assertEqual(failure(recast, Book(2, []), grid), (BadShape, {}))

    def test_not_whole(self):
        book = Book(1, [load("a", "1", 2)])
        self.assertEqual(failure(recast, book, Grid([[1]], 2)), (NotWhole, {}))
        self.assertEqual(failure(recast, Book(1, []), Grid([[1]], 2)), (NotWhole, {}))
        self.assertEqual(recast(book, Grid([[4]], 2)), Book(1, [load("a", "1", 4)]))
        self.assertEqual(failure(recast, Book(1, [load("a", "1", 9999)]), Grid([[99999]], 2)), (NotWhole, {}))

    def test_bounds(self):
        book = Book(2, [load("a", "1", 1, 0), load("b", "1", 3, 1), load("c", "1", 3, -1)])
        self.assertEqual(recast(book, Grid([[3333], [0]])).load("b").numbers, (9999,))
        self.assertEqual(failure(recast, book, Grid([[3333], [1]])), (OutOfBounds, {"value": 10000}))
        self.assertEqual(failure(recast, book, Grid([[0, 3333], [0, -1]])), (OutOfBounds, {"value": 10000}))
        self.assertEqual(failure(recast, book, Grid([[0, -4000], [12345, 0]])), (OutOfBounds, {"value": 12345}))
        self.assertEqual(failure(recast, book, Grid([[0, 20000], [12345, 0]])), (OutOfBounds, {"value": 20000}))
        self.assertEqual(failure(recast, book, Grid([[-3333], [-1]])), (OutOfBounds, {"value": -10000}))


if __name__ == "__main__":
    unittest.main()
