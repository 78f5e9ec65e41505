"""Points 37 and 38: a few loads with exactly the same energies."""

import unittest
from itertools import product

from fewcarry.books.book import Book
from fewcarry.exact.errors import TooHeavy
from fewcarry.exact.ratio import Ratio
from fewcarry.thins.exactly import exact_few, square_rank
from tests import plain
from tests.support import directions, energy_of, failure, fraction, load, random_books


def some_books():
    made = [book for width in (1, 2, 3, 4) for book in random_books(20 + width, 12, width, most_loads=12)]
    made.extend(random_books(31, 6, 2, most_loads=30, most=1))
    made.append(Book(2, [load("a%d%d" % pair, "1", *pair) for pair in product(range(4), repeat=2)]))
    made.append(Book(3, [load("a%d%d%d" % three, "1/3", *three) for three in product(range(3), repeat=3)]))
    return made


BOOKS = some_books()


def tents():
    """78 loads of width 12 with independent squares."""
    rows = [[int(k in (i, j)) for k in range(12)] for i in range(12) for j in range(i, 12)]
    return [load("t%d" % k, "1", *row) for k, row in enumerate(rows)]


class SquareRank(unittest.TestCase):
    def test_known(self):
        for text, expected in (("book 2", 0), ("book 2\na 1: 0 0", 0), ("book 1\na 1: 1\nb 1: 2", 1),
                               ("book 2\na 1: 1 0\nb 1: 0 1\nc 1: 1 1\nd 1: 1 -1", 3),
                               ("book 2\na 1: 1 1\nb 1: -1 -1\nc 1: 2 0", 2),
                               ("book 2\na 1: 1 2\nb 1: 2 4\nc 1: -3 -6", 1)):
            self.assertEqual(square_rank(Book.read(text)), expected)

    def test_by_definition(self):
        for book in BOOKS:
            got = square_rank(book)
            self.assertIs(type(got), int)
            self.assertEqual(got, plain.rank_of([plain.squares_of_load(item) for item in book]))
            self.assertLessEqual(got, book.rank() * (book.rank() + 1) // 2)

    def test_large_table(self):
        loads = tents()
        self.assertEqual(square_rank(Book(12, loads)), 78)
        more = [load("m%d" % k, "1", *[(k * j) % 5 - 2 for j in range(12)]) for k in range(122)]
        self.assertEqual(square_rank(Book(12, more[:60] + loads + more[60:])), 78)
        self.assertEqual(square_rank(Book(12, loads[:70])), 70)


class ExactFew(unittest.TestCase):
    def test_known(self):
        for text, expected in (
                ("book 1\na 1: 1\nb 1: 2", "book 1\na 5: 1"),
                ("book 3", "book 3"),
                ("book 2\na 1: 0 0\nb 2: 0 0", "book 2"),
                # (1, -1) has the squares of both axes twice, less those of (1, 1).
                ("book 2\na 1: 1 0\nb 1: 0 1\nc 1: 1 1\nd 1/2: 1 -1", "book 2\na 2: 1 0\nb 2: 0 1\nc 1/2: 1 1"),
                ("book 2\na 1: 1 0\nb 1: 0 1\nc 1: 1 1\nd 1: 1 -1", "book 2\na 3: 1 0\nb 3: 0 1"),
                ("book 2\na 1: 1 0\nb 1: 0 1\nc 1: 1 1\nd 4: 1 -1", "book 2\na 3: 1 0\nb 3: 0 1\nd 3: 1 -1")):
            self.assertEqual(exact_few(Book.read(text)).text(), expected)

    def test_by_definition(self):
        for book in BOOKS:
            got = exact_few(book)
            self.assertIs(type(got), Book)
            self.assertEqual({item.label: fraction(item.weight) for item in got}, plain.exactly(book))
            numbers = {item.label: item.numbers for item in book}
            self.assertEqual([(item.label, item.numbers) for item in got],
                             [(label, numbers[label]) for label in numbers if label in got])

    def test_emptied_without_a_rest(self):
        # The squares of d are half of those of a and b, less those of c, and c has just enough weight.
        book = Book.read("book 3\na 1: 1 1 0\nb 1: 1 -1 0\nc 1: 1 0 0\nd 1: 0 1 0\ne 1: 0 0 1\nf 1: 1 0 0")
        self.assertEqual(exact_few(book).text(), "book 3\na 3/2: 1 1 0\nb 3/2: 1 -1 0\ne 1: 0 0 1\nf 1: 1 0 0")

    def test_several_are_emptied_at_once(self):
        # The squares of x are a ninth of those of u, v and w, less those of c and e.
        lines = ["book 3", "u 1: 1 2 2", "v 1: 2 1 -2", "w 1: 2 -2 1", "c 1: 1 0 0", "e 1: 0 1 0", "x 3: 0 0 1"]
        book = Book.read("\n".join(lines))
        self.assertEqual(exact_few(book).text(),
                         "book 3\nu 10/9: 1 2 2\nv 10/9: 2 1 -2\nw 10/9: 2 -2 1\nx 2: 0 0 1")
        # Both places are free again.
        for more in (["f 1: 1 0 0", "g 2: 0 1 0"], ["f 1: 1 1 0", "g 2: 0 1 1", "h 1: 1 0 0"], ["f 1: 0 0 5"]):
            book = Book.read("\n".join(lines + more))
            self.assertEqual({item.label: fraction(item.weight) for item in exact_few(book)}, plain.exactly(book))
            self.assertEqual(exact_few(book).square(), book.square())

    def test_same_energies(self):
        for book in BOOKS:
            got = exact_few(book)
            self.assertEqual(got.square(), book.square())
            for direction in directions(book.width, 1):
                self.assertEqual(energy_of(got, direction), energy_of(book, direction))

    def test_no_other_weights(self):
        """Point 38."""
        equal = different = 0
        for book in BOOKS:
            got = exact_few(book)
            self.assertEqual(square_rank(got), len(got))
            self.assertLessEqual(len(got), book.rank() * (book.rank() + 1) // 2)
            if len(got):
                # The squares of the loads are independent, so their weights are the unique multiples.
                rows = [plain.squares_of_load(item) for item in got]
                square = book.square()
                places = [(i, j) for i in range(book.width) for j in range(i, book.width)]
                total = [fraction(square[place]) for place in places]
                self.assertEqual(plain.shares_of(rows, total), [fraction(item.weight) for item in got])
            self.assertEqual(got == book, square_rank(book) == len(book))
            equal += got == book
            different += got != book
        self.assertGreater(min(equal, different), 5)

    def test_again(self):
        for book in BOOKS:
            got = exact_few(book)
            self.assertEqual(exact_few(got), got)


class Work(unittest.TestCase):
    @staticmethod
    def book(rank, many):
        loads = [load("a%d" % k, "1", *[int(j == k) for j in range(12)]) for k in range(rank)]
        return Book(12, loads + [load("z%d" % k, "1", *[0] * 12) for k in range(many - rank)])

    def test_limit(self):
        # 9 * 10 / 2 squared is 2025, and 12 * 13 / 2 squared is 6084.
        self.assertEqual(len(exact_few(self.book(9, 148))), 9)
        self.assertEqual(failure(exact_few, self.book(9, 149)), (TooHeavy, {"work": 301725}))
        self.assertEqual(len(exact_few(self.book(12, 49))), 12)
        self.assertEqual(failure(exact_few, self.book(12, 50)), (TooHeavy, {"work": 304200}))
        self.assertEqual(failure(exact_few, Book(12, tents())), (TooHeavy, {"work": 474552}))

    def test_rank_counts_not_width(self):
        self.assertEqual(len(exact_few(self.book(8, 200))), 8)
        self.assertEqual(len(exact_few(self.book(0, 200))), 0)

    def test_square_rank_has_no_limit(self):
        self.assertEqual(square_rank(self.book(12, 200)), 12)

    def test_book_stays(self):
        book = Book.read("book 1\na 1: 1\nb 1: 2")
        exact_few(book)
        self.assertEqual(book.text(), "book 1\na 1: 1\nb 1: 2")
        self.assertEqual(exact_few(book).load("a").weight, Ratio(5))


if __name__ == "__main__":
    unittest.main()
