"""Point 40, and the grids of point 41: claims."""

import unittest

from fewcarry.books.book import Book
from fewcarry.certificates.claim import Claim
from fewcarry.exact.errors import BadFactor, BadShape, Crossed
from fewcarry.exact.ratio import Ratio
from fewcarry.grids.grid import Grid
from fewcarry.grids.order import at_most
from fewcarry.thins.fewest import Few, fewest
from fewcarry.thins.thinning import Thinning
from tests.support import directions, energy_of, failure, fraction, random_books, ratio, ratios

ONE = Book.read("book 2\na 1: 1 0\nb 1/2: 1 1")
TWO = Book.read("book 2\nx 3: 1 -1")
WIDE = Book.read("book 3\na 1: 1 0 0")


class Made(unittest.TestCase):
    def test_fields(self):
        for low, high in (("0", "0"), ("0", "1"), ("1", "1"), ("1/3", "7/2")):
            claim = Claim(ONE, TWO, ratio(low), ratio(high))
            self.assertIs(claim.few, ONE)
            self.assertIs(claim.whole, TWO)
            self.assertEqual((claim.low, claim.high), (ratio(low), ratio(high)))

    def test_need_not_hold(self):
        self.assertEqual(Claim(ONE, Book(2, []), Ratio(5), Ratio(6)).low, Ratio(5))

    def test_of(self):
        claim = Claim.of(Few(ONE, ratio("7/2")), TWO)
        self.assertIs(type(claim), Claim)
        self.assertIs(claim.few, ONE)
        self.assertIs(claim.whole, TWO)
        self.assertEqual((claim.low, claim.high), (Ratio(1), Ratio(7, 2)))
        claim = Claim.of(Few(ONE, Ratio(1)), ONE)
        self.assertEqual((claim.low, claim.high), (Ratio(1), Ratio(1)))
        self.assertEqual(failure(Claim.of, Few(ONE, Ratio(1)), WIDE), (BadShape, {}))

    def test_errors(self):
        for low, high in (("-1", "-2"), ("2", "1"), ("0", "1"), ("-1", "1")):
            self.assertEqual(failure(Claim, ONE, WIDE, ratio(low), ratio(high)), (BadShape, {}))
            self.assertEqual(failure(Claim, WIDE, ONE, ratio(low), ratio(high)), (BadShape, {}))
        for low, high in (("-1", "-2"), ("-1/9", "1"), ("-1", "-1")):
            self.assertEqual(failure(Claim, ONE, TWO, ratio(low), ratio(high)), (BadFactor, {"factor": ratio(low)}))
        for low, high in (("2", "1"), ("1/2", "1/3"), ("0", "-1")):
            self.assertEqual(failure(Claim, ONE, TWO, ratio(low), ratio(high)),
                             (Crossed, {"low": ratio(low), "high": ratio(high)}))


class Grids(unittest.TestCase):
    def test_known(self):
        claim = Claim(ONE, TWO, Ratio(1, 3), Ratio(2))
        self.assertEqual(claim.low_grid(), Grid([[1, 3], [3, -1]], 2))
        self.assertEqual(claim.high_grid(), Grid([[9, -13], [-13, 11]], 2))

    def test_by_definition(self):
        for width in (1, 2, 3):
            books = random_books(width, 6, width)
            for few, whole in zip(books, books[1:]):
                for low, high in (("0", "0"), ("1/2", "3"), ("2", "2")):
                    claim = Claim(few, whole, ratio(low), ratio(high))
                    p, q = fraction(claim.low), fraction(claim.high)
                    for direction in directions(width, 1):
                        one, two = energy_of(few, direction), energy_of(whole, direction)
                        self.assertEqual(fraction(claim.low_grid().form(direction, direction)), one - p * two)
                        self.assertEqual(fraction(claim.high_grid().form(direction, direction)), q * two - one)

    def test_kind(self):
        for grid in (Claim(ONE, TWO, Ratio(0), Ratio(1)).low_grid(), Claim(WIDE, WIDE, Ratio(1), Ratio(1)).high_grid()):
            self.assertIs(type(grid), Grid)
        self.assertEqual(Claim(WIDE, WIDE, Ratio(1), Ratio(1)).low_grid(), Grid([[0] * 3] * 3))

    def test_labels_and_order_do_not_matter(self):
        other = Book.read("book 2\nq 1/2: 1 1\nr 1: -1 0")
        for low, high in (("0", "1"), ("1/2", "3")):
            one = Claim(ONE, TWO, ratio(low), ratio(high))
            two = Claim(other, TWO, ratio(low), ratio(high))
            self.assertEqual((one.low_grid(), one.high_grid()), (two.low_grid(), two.high_grid()))

    def test_what_a_thinning_claims_holds(self):
        for book in random_books(9, 8, 3):
            for q in ratios("4/3", "2"):
                thinning = Thinning(book, q)
                for few in (Few(thinning.few, thinning.factor), fewest(book, q)):
                    claim = Claim.of(few, book)
                    zero = claim.low_grid() - claim.low_grid()
                    self.assertTrue(at_most(zero, claim.low_grid()))
                    self.assertTrue(at_most(zero, claim.high_grid()))


if __name__ == "__main__":
    unittest.main()
