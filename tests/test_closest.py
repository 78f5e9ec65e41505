"""Points 45 and 46: the closest bounds, and what bounds tell of determinants."""

import unittest

from fewcarry.books.book import Book
from fewcarry.certificates.claim import Claim
from fewcarry.certificates.closest import determinant_span, greatest_low, least_high
from fewcarry.exact.errors import BadFactor, BadShape, Crossed, OutOfBounds
from fewcarry.exact.ratio import Ratio
from fewcarry.exact.span import Span
from fewcarry.thins.fewest import Few
from fewcarry.thins.thinning import Thinning
from tests import plain
from tests.support import determinant_of, entries, failure, fraction, random_books, ratio, ratios


def is_high(few, whole, factor):
    return plain.is_nowhere_below_zero(plain.mixed(factor, entries(whole.square()), -1, entries(few.square())))


def is_low(few, whole, factor):
    return plain.is_nowhere_below_zero(plain.mixed(1, entries(few.square()), -factor, entries(whole.square())))


def of_weight(text):
    return Book.read(f"book 1\na {text}: 1")


ONE = of_weight("1")


class Closest(unittest.TestCase):
    def test_known(self):
        for weight, grain, low, high in (
                ("3", 1, "3", "3"), ("7/3", 1, "2", "3"), ("7/3", 2, "2", "5/2"), ("7/3", 3, "7/3", "7/3"),
                ("1/2000", 1000, "0", "1/1000"), ("1/1000", 1000, "1/1000", "1/1000"), ("1000", 1, "1000", "1000"),
                ("1000", 1000, "1000", "1000"), ("9999/10", 1000, "9999/10", "9999/10"),
                ("9999/10", 1, "999", "1000")):
            self.assertEqual(greatest_low(of_weight(weight), ONE, grain), ratio(low))
            self.assertEqual(least_high(of_weight(weight), ONE, grain), ratio(high))

    def test_beyond_1000(self):
        for weight in ("1001", "1000001/1000", "99999"):
            for grain in (1, 7, 1000):
                self.assertIsNone(least_high(of_weight(weight), ONE, grain))
                self.assertEqual(greatest_low(of_weight(weight), ONE, grain), Ratio(1000))

    def test_by_definition(self):
        seen = {"none": 0, "some": 0, "zero": 0, "low": 0}
        for width in (1, 2, 3):
            books = random_books(60 + width, 14, width)
            for few, whole, grain in zip(books, books[1:] + [books[3]], (1, 2, 3, 10, 1000) * 3):
                high, low = least_high(few, whole, grain), greatest_low(few, whole, grain)
                self.assertIs(type(low), Ratio)
                self.assertEqual(grain % low.bottom, 0)
                self.assertTrue(is_low(few, whole, fraction(low)))
                if low != Ratio(1000):
                    self.assertFalse(is_low(few, whole, fraction(low + Ratio(1, grain))))
                    seen["low" if low.sign() else "zero"] += 1
                if high is None:
                    self.assertFalse(is_high(few, whole, 1000))
                    seen["none"] += 1
                else:
                    self.assertIs(type(high), Ratio)
                    self.assertEqual(grain % high.bottom, 0)
                    self.assertTrue(is_high(few, whole, fraction(high)))
                    if high.sign():
                        self.assertFalse(is_high(few, whole, fraction(high - Ratio(1, grain))))
                    seen["some"] += 1
        self.assertGreater(min(seen.values()), 3, seen)

    def test_without_energy(self):
        zeros = (Book(1, []), Book.read("book 1\nz 2: 0"))
        for zero in zeros:
            for grain in (1, 1000):
                self.assertIsNone(least_high(ONE, zero, grain))
                self.assertEqual(greatest_low(ONE, zero, grain), Ratio(1000))
                self.assertEqual(least_high(zero, ONE, grain), Ratio(0))
                self.assertEqual(greatest_low(zero, ONE, grain), Ratio(0))
                for other in zeros:
                    self.assertEqual(least_high(zero, other, grain), Ratio(0))
                    self.assertEqual(greatest_low(zero, other, grain), Ratio(1000))

    def test_thinnings_keep_within_their_factor(self):
        for book in random_books(8, 6, 3):
            if book.rank():
                thinning = Thinning(book, ratio("3/2"))
                high = least_high(thinning.few, book, 100)
                self.assertLessEqual(fraction(high), fraction(thinning.factor) + fraction(Ratio(1, 100)))
                self.assertGreaterEqual(fraction(greatest_low(thinning.few, book, 100)), 1)

    def test_errors(self):
        wide = Book(2, [])
        for call in (least_high, greatest_low):
            for grain in (1, 0, -5, 2000):
                self.assertEqual(failure(call, ONE, wide, grain), (BadShape, {}))
                self.assertEqual(failure(call, wide, ONE, grain), (BadShape, {}))
            for grain in (0, -1, 1001, 10 ** 9):
                self.assertEqual(failure(call, ONE, ONE, grain), (OutOfBounds, {"value": grain}))
                self.assertEqual(failure(call, Book(1, []), Book(1, []), grain), (OutOfBounds, {"value": grain}))
            self.assertEqual((call(ONE, ONE, 1), call(ONE, ONE, 1000)), (Ratio(1), Ratio(1)))


class Determinants(unittest.TestCase):
    def test_known(self):
        book = Book.read("book 2\na 2: 1 0\nb 3: 0 1")
        got = determinant_span(book, Ratio(1, 2), Ratio(3))
        self.assertIs(type(got), Span)
        self.assertEqual((got.low, got.high), (Ratio(6, 9), Ratio(24)))
        self.assertEqual(determinant_span(book, Ratio(1), Ratio(1)), Span(Ratio(6), Ratio(6)))

    def test_rank_0(self):
        for book in (Book(3, []), Book.read("book 2\na 1: 0 0")):
            self.assertEqual(determinant_span(book, Ratio(1, 9), Ratio(7)), Span(Ratio(1), Ratio(1)))

    def test_rank_counts_not_width(self):
        book = Book.read("book 3\na 5: 1 2 1")
        self.assertEqual(determinant_span(book, Ratio(1), Ratio(2)), Span(Ratio(5, 2), Ratio(5)))

    def test_claims_that_hold(self):
        """What point 46 says of the ranks, columns and determinants of both books."""
        seen = 0
        for width in (1, 2, 3):
            for book in random_books(70 + width, 8, width):
                thinning = Thinning(book, ratio("3/2"))
                for few, low, high in ((thinning.few, Ratio(1), thinning.factor),
                                       (book.scaled(Ratio(2)) if len(book) else book, Ratio(1), Ratio(3))):
                    claim = Claim.of(Few(few, high), book)
                    self.assertTrue(is_low(few, book, 1) and is_high(few, book, fraction(high)), claim)
                    self.assertEqual((few.rank(), few.columns()), (book.rank(), book.columns()))
                    x = determinant_of(entries(few.core()))
                    whole = determinant_of(entries(book.core()))
                    self.assertTrue(fraction(low) ** few.rank() * whole <= x <= fraction(high) ** few.rank() * whole)
                    got = determinant_span(few, low, high)
                    self.assertEqual((fraction(got.low), fraction(got.high)),
                                     (x / fraction(high) ** few.rank(), x / fraction(low) ** few.rank()))
                    self.assertTrue(fraction(got.low) <= whole <= fraction(got.high))
                    seen += 1
        self.assertGreater(seen, 40)

    def test_both_ends_are_reached(self):
        book = Book.read("book 2\na 2: 1 0\nb 3: 1 1")
        got = determinant_span(book, Ratio(1, 2), Ratio(3))
        for factor, end in ((Ratio(1, 3), got.low), (Ratio(2), got.high)):
            whole = book.scaled(factor)
            self.assertTrue(is_low(book, whole, fraction(Ratio(1, 2))) and is_high(book, whole, 3))
            self.assertEqual(determinant_of(entries(whole.core())), fraction(end))

    def test_errors(self):
        for low in ratios("0", "-1", "-1/2"):
            for high in ratios("1", "-2", "0"):
                self.assertEqual(failure(determinant_span, ONE, low, high), (BadFactor, {"factor": low}))
        for low, high in (("2", "1"), ("1/2", "1/3"), ("1", "-1"), ("1", "0")):
            wanted = Crossed, {"low": ratio(low), "high": ratio(high)}
            self.assertEqual(failure(determinant_span, ONE, ratio(low), ratio(high)), wanted)
            self.assertEqual(failure(determinant_span, Book(2, []), ratio(low), ratio(high)), wanted)


if __name__ == "__main__":
    unittest.main()
