"""Point 39: a book together with a factor, and the shorter one of two ways to it."""

import unittest

from fewcarry.books.book import Book
from fewcarry.exact.errors import BadFactor, BadQ, TooHeavy
from fewcarry.exact.ratio import Ratio
from fewcarry.thins.exactly import exact_few
from fewcarry.thins.fewest import Few, fewest
from fewcarry.thins.thinning import Thinning
from tests.support import failure, load, random_books, ratio, ratios


def book_of_rank(rank, many, width=12):
    """A book with all axes up to the rank and some mixtures of them."""
    loads = [load("a%d" % k, "1", *[int(j == k) for j in range(width)]) for k in range(rank)]
    more = [[(k + j) % 4 - 1 if j < rank else 0 for j in range(width)] for k in range(many - rank)]
    return Book(width, loads + [load("b%d" % k, "1/2", *row) for k, row in enumerate(more)])


class TheFew(unittest.TestCase):
    def test_fields(self):
        book = Book.read("book 1\na 1: 1")
        for factor in ratios("1", "1000001/1000000", "9", "100"):
            few = Few(book, factor)
            self.assertIs(few.book, book)
            self.assertEqual(few.factor, factor)
        self.assertEqual(Few(Book(2, []), Ratio(1)).book, Book(2, []))

    def test_factor(self):
        for factor in ratios("999999/1000000", "0", "-1", "-9", "1/2"):
            self.assertEqual(failure(Few, Book(1, []), factor), (BadFactor, {"factor": factor}))


class Fewest(unittest.TestCase):
    def exactly(self, book, q):
        few = fewest(book, q)
        self.assertIs(type(few), Few)
        self.assertEqual((few.book, few.factor), (exact_few(book), Ratio(1)))

    def thinned(self, book, q):
        few = fewest(book, q)
        self.assertIs(type(few), Few)
        thinning = Thinning(book, q)
        self.assertEqual((few.book, few.factor), (thinning.few, thinning.factor))
        self.assertNotEqual(few.factor, Ratio(1))

    def test_exactly(self):
        # As many steps as squares: 3 of each for rank 2 and 13/12, 6 for rank 3 and 4/3.
        self.exactly(book_of_rank(2, 5), ratio("13/12"))
        self.exactly(book_of_rank(3, 9), ratio("4/3"))
        self.exactly(book_of_rank(7, 12), Ratio(2))
        for book in random_books(3, 6, 2):
            self.exactly(book, Ratio(2))

    def test_thinned(self):
        # One step fewer than squares for rank 3 and 5/4.
        self.thinned(book_of_rank(3, 9), ratio("5/4"))
        self.thinned(book_of_rank(3, 4), ratio("13/12"))
        self.thinned(book_of_rank(8, 11), ratio("2"))

    def test_rank_0(self):
        for book in (Book(3, []), Book(1, [load("a", "1", 0)])):
            for q in ratios("13/12", "4"):
                self.exactly(book, q)
                self.assertEqual(len(fewest(book, q).book), 0)

    def test_rank_counts_not_width(self):
        self.exactly(book_of_rank(1, 4), ratio("13/12"))
        self.exactly(book_of_rank(2, 4), ratio("13/12"))

    def test_errors(self):
        for q in ratios("1", "1/2", "49/12", "14/13"):
            for book in (Book(1, []), book_of_rank(12, 200)):
                self.assertEqual(failure(fewest, book, q), (BadQ, {"q": q}))
        # 144 steps for 45 squares, so it is the exact few that is too heavy.
        self.assertEqual(failure(fewest, book_of_rank(9, 149), Ratio(4)), (TooHeavy, {"work": 149 * 45 * 45}))
        # 15 steps for 78 squares, so it is the thinning.
        self.assertEqual(failure(fewest, book_of_rank(12, 127), ratio("13/12")),
                         (TooHeavy, {"work": 15 * (127 * 144 + 1728)}))


if __name__ == "__main__":
    unittest.main()
