"""Points 21 and 22: the energy of a book, its square grid, and its independent columns."""

import unittest
from fractions import Fraction

from fewcarry.books.book import Book
from fewcarry.books.load import Load
from fewcarry.exact.errors import BadShape, NoLabel
from fewcarry.exact.ratio import Ratio
from fewcarry.grids.grid import Grid
from fewcarry.grids.order import at_most, is_above
from fewcarry.grids.solving import independent_columns, mixture, rank
from tests.support import directions, energy_of, entries, failure, fraction, load, random_books, rows_of

BOOK = Book(3, [load("a", "1/2", 1, 2, 2), load("b", "3", 0, 0, 0), load("c", "2/3", 0, 1, 1)])


def books():
    return [book for width in (1, 2, 3, 4) for book in random_books(21 + width, 25, width)]


class Energy(unittest.TestCase):
    def test_known(self):
        got = BOOK.energy([1, 1, -2])
        self.assertIs(type(got), Ratio)
        self.assertEqual(got.text(), "7/6")
        self.assertEqual(BOOK.energy((0, 1, -1)).text(), "0")
        self.assertEqual(BOOK.energy([0, 0, 0]).text(), "0")

    def test_by_definition(self):
        for book in books():
            for direction in directions(book.width, 1):
                self.assertEqual(fraction(book.energy(direction)), energy_of(book, direction))

    def test_without_loads(self):
        self.assertEqual(Book(2, []).energy([5, 7]), Ratio(0))

    def test_length(self):
        for direction in ([], [1], [1, 2], [1, 2, 3, 4]):
            self.assertEqual(failure(BOOK.energy, direction), (BadShape, {}))
            self.assertEqual(failure(Book(3, []).energy, direction), (BadShape, {}))


class Square(unittest.TestCase):
    def test_known(self):
        got = BOOK.square()
        self.assertIs(type(got), Grid)
        self.assertEqual((got.rows, got.over), (((3, 6, 6), (6, 16, 16), (6, 16, 16)), 6))

    def test_by_definition(self):
        for book in books():
            wanted = [[sum((w * row[i] * row[j] for w, row in rows_of(book)), Fraction(0))
                       for j in range(book.width)] for i in range(book.width)]
            self.assertEqual(entries(book.square()), wanted)
            self.assertEqual(book.square().turned(), book.square())

    def test_without_loads(self):
        self.assertEqual(Book(2, []).square(), Grid([[0, 0], [0, 0]]))
        self.assertEqual(Book(1, [load("a", "5", 0)]).square(), Grid([[0]]))

    def test_many_loads(self):
        book = Book(12, [Load("x%d" % k, Ratio(1, k + 1), [k - j * j for j in range(12)]) for k in range(200)])
        direction = [1, -1, 2, 0, 3, 0, 0, 1, 0, 0, 0, 9]
        self.assertEqual(fraction(book.energy(direction)), energy_of(book, direction))
        self.assertEqual(book.rank(), 2)


class Columns(unittest.TestCase):
    def test_known(self):
        self.assertEqual(BOOK.columns(), [0, 1])
        self.assertIs(type(BOOK.columns()), list)
        self.assertEqual(BOOK.rank(), 2)
        self.assertEqual(BOOK.core(), Grid([[3, 6], [6, 16]], 6))
        self.assertEqual(BOOK.reduced("a"), [1, 2])
        self.assertIs(type(BOOK.reduced("a")), list)
        self.assertEqual(BOOK.reduced("b"), [0, 0])

    def test_first_column_of_zeros(self):
        book = Book(3, [load("a", "1", 0, 3, 6), load("b", "1", 0, -1, -2)])
        self.assertEqual((book.columns(), book.rank()), ([1], 1))
        self.assertEqual(book.core(), Grid([[10]]))
        self.assertEqual((book.reduced("a"), book.reduced("b")), ([3], [-1]))

    def test_rank_zero(self):
        for book in (Book(3, []), Book(2, [load("a", "1", 0, 0)])):
            self.assertEqual((book.columns(), book.rank(), book.core()), ([], 0, Grid([])))
        self.assertEqual(Book(2, [load("a", "1", 0, 0)]).reduced("a"), [])

    def test_against_the_table(self):
        ranks = set()
        for book in books():
            columns = book.columns()
            ranks.add((book.width, len(columns)))
            self.assertEqual(columns, independent_columns(book.square()))
            if len(book):
                table = Grid([item.numbers for item in book])
                self.assertEqual(columns, independent_columns(table))
                self.assertEqual(book.rank(), rank(table))
            core = book.core()
            self.assertEqual(core, book.square().part(columns, columns))
            self.assertTrue(is_above(core))
            for item in book:
                self.assertEqual(book.reduced(item.label), [item.numbers[k] for k in columns])
        self.assertGreater(len(ranks), 10)

    def test_lists_are_new(self):
        book = Book(2, [load("a", "1", 1, 0), load("b", "1", 0, 1)])
        book.columns().append(7)
        book.reduced("a").append(7)
        book.pulls().append(7)
        self.assertEqual((book.columns(), book.rank()), ([0, 1], 2))
        self.assertEqual((book.reduced("a"), len(book.pulls())), ([1, 0], 2))

    def test_no_label(self):
        for label in ("d", "", "A", "abcdefghi"):
            self.assertEqual(failure(BOOK.reduced, label), (NoLabel, {"label": label}))


class Mixtures(unittest.TestCase):
    def test_numbers_are_mixtures_of_the_reduced_ones(self):
        for book in books():
            for column in range(book.width):
                multiples = mixture(book.square(), column)
                for item in book:
                    total = Ratio(0)
                    for multiple, number in zip(multiples, book.reduced(item.label)):
                        total = total + multiple * Ratio(number)
                    self.assertEqual(total, Ratio(item.numbers[column]))

    def test_inequalities_of_the_independent_columns_hold_everywhere(self):
        kinds = {True: 0, False: 0}
        for book in books():
            few = book.reweighed({item.label: item.weight * Ratio(k % 3 + 1) for k, item in enumerate(book) if k % 4})
            places = book.columns()
            for one, two in ((few, book), (book, few)):
                everywhere = at_most(one.square(), two.square())
                kinds[everywhere] += 1
                self.assertEqual(at_most(one.square().part(places, places), two.square().part(places, places)),
                                 everywhere)
        self.assertGreater(min(kinds.values()), 20)


if __name__ == "__main__":
    unittest.main()
