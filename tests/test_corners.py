"""Point 66: the loads at the corners, and the shares of them in the others."""

import unittest
from fractions import Fraction
from itertools import combinations
from math import comb

from fewcarry.books.book import Book
from fewcarry.exact.errors import NoLabel, TooHeavy
from fewcarry.exact.ratio import Ratio
from fewcarry.fits.corners import corner_loads, corner_shares
from fewcarry.nets.forests import forests
from tests.support import determinant_of, failure, fraction, load, random_books, random_nets, texts

BOOKS = [book for width in (1, 2, 3, 4) for book in random_books(660 + width, 20, width)]
KNOWN = Book.read("book 2\na 1: 1 0\nb 1: 0 1\nc 1: 2 1\nd 9: 1 2\ne 1: -2 -1")


class Corners(unittest.TestCase):
    def test_known(self):
        # The determinants of c and d and of d and e are 3 and -3, and the weights do not count.
        self.assertEqual(corner_loads(KNOWN), ("c", "d"))
        self.assertEqual(texts(corner_shares(KNOWN, "a")), ["2/3", "-1/3"])
        self.assertEqual(texts(corner_shares(KNOWN, "e")), ["-1", "0"])
        self.assertEqual(texts(corner_shares(KNOWN, "d")), ["0", "1"])

    def test_by_definition(self):
        for book in BOOKS:
            best, most = (), 0
            for loads in combinations(book.loads, book.rank()):
                size = abs(determinant_of([[Fraction(n) for n in book.reduced(item.label)] for item in loads]))
                if size > most:
                    best, most = tuple(item.label for item in loads), size
            got = corner_loads(book)
            self.assertIs(type(got), tuple)
            self.assertEqual(got, best)

    def test_first_of_equal_sets(self):
        # All determinants of the book of a net are 0, 1 and -1, and those of its forests are not 0.
        for net in random_nets(66, 20):
            self.assertEqual(corner_loads(net.as_book()), next(forests(net)))
        self.assertEqual(corner_loads(Book.read("book 1\na 1: 0\nb 1: -5\nc 9: 5")), ("b",))

    def test_shares(self):
        for book in BOOKS:
            corners = [book.load(label) for label in corner_loads(book)]
            for item in book:
                shares = corner_shares(book, item.label)
                self.assertIs(type(shares), list)
                self.assertEqual(len(shares), len(corners))
                self.assertTrue(all(type(share) is Ratio for share in shares))
                for place, number in enumerate(item.numbers):
                    self.assertEqual(sum((fraction(share) * corner.numbers[place]
                                          for share, corner in zip(shares, corners)), Fraction(0)), number)
                self.assertTrue(all(-1 <= fraction(share) <= 1 for share in shares))

    def test_rank_0(self):
        for book in (Book(3, []), Book.read("book 2\na 1: 0 0\nb 1: 0 0")):
            self.assertEqual(corner_loads(book), ())
            for item in book:
                self.assertEqual(corner_shares(book, item.label), [])

    def test_limit(self):
        def book_of(many):
            return Book(3, [load("a%d" % k, "1", 1, k, 2 * k) for k in range(many)])
        # The rank counts, not the width.
        self.assertEqual(corner_loads(book_of(100)), ("a0", "a99"))
        self.assertEqual(texts(corner_shares(book_of(100), "a33")), ["2/3", "1/3"])
        for many in (101, 200):
            wanted = (TooHeavy, {"work": comb(many, 2)})
            self.assertEqual(failure(corner_loads, book_of(many)), wanted)
            self.assertEqual(failure(corner_shares, book_of(many), "a3"), wanted)
            self.assertEqual(failure(corner_shares, book_of(many), "b"), (NoLabel, {"label": "b"}))

    def test_no_label(self):
        for label in ("q", "", "A", "aaaaaaaaaa"):
            for book in (KNOWN, Book(3, [])):
                self.assertEqual(failure(corner_shares, book, label), (NoLabel, {"label": label}))


if __name__ == "__main__":
    unittest.main()
