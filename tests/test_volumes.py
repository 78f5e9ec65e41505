"""Points 64 and 65: the volumes of sets of loads, and the means over their exact fits."""

import inspect
import unittest
from fractions import Fraction
from itertools import combinations
from math import comb

from fewcarry.books.book import Book
from fewcarry.exact.errors import BadShape, Dependent, TooHeavy
from fewcarry.exact.ratio import Ratio
from fewcarry.fits.fit import Fit, cost_of, given_part
from fewcarry.fits.means import mean_cost, mean_shares
from fewcarry.fits.volumes import volumes
from fewcarry.grids.solving import determinant
from tests import plain
from tests.support import determinant_of, failure, fraction, load, random_books, texts

ZERO = Fraction(0)
KNOWN = Book.read("book 3\na 1: 1 0 1\nb 2: 0 1 3\nc 1/2: 2 0 4\nd 1: 1 3 8")


def some_books():
    """Books with independent given columns, some with sets of volume 0."""
    books = [book for width in (2, 3, 4) for book in random_books(640 + width, 30, width)]
    books = [book for book in books if given_part(book).rank() == book.width - 1]
    return books + [KNOWN]


BOOKS = some_books()
BAD_CALLS = (lambda book: list(volumes(book)), mean_shares, mean_cost)


def book_of(width, many):
    """A book with independent given columns, the first numbers being powers."""
    return Book(width, [load("a%d" % k, "1", *[(k % 9) ** j for j in range(min(width, 4))],
                             *[int(k == j) for j in range(4, width)]) for k in range(many)])


class Volumes(unittest.TestCase):
    def test_known(self):
        got = list(volumes(KNOWN))
        self.assertEqual([labels for labels, _ in got], list(combinations("abcd", 2)))
        self.assertEqual(texts([volume for _, volume in got]), ["2", "0", "9", "4", "2", "18"])

    def test_by_definition(self):
        zeros = 0
        for book in BOOKS:
            self.assertTrue(inspect.isgenerator(volumes(book)))
            got = list(volumes(book))
            size = book.width - 1
            self.assertEqual(len(got), comb(len(book), size))
            for pair, loads in zip(got, combinations(book.loads, size)):
                self.assertIs(type(pair), tuple)
                labels, volume = pair
                self.assertIs(type(labels), tuple)
                self.assertIs(type(volume), Ratio)
                self.assertEqual(labels, tuple(item.label for item in loads))
                self.assertEqual(fraction(volume), plain.volume(loads))
                zeros += volume == Ratio(0)
        self.assertGreater(zeros, 10)

    def test_sums(self):
        for book in BOOKS:
            part = given_part(book)
            whole = determinant(part.core())
            got = list(volumes(book))
            self.assertEqual(sum((fraction(volume) for _, volume in got), ZERO), fraction(whole))
            for item in book:
                with_load = sum((fraction(volume) for labels, volume in got if item.label in labels), ZERO)
                self.assertEqual(with_load, fraction(part.pull(item.label) * whole))

    def test_shape(self):
        for book in (Book(1, []), Book.read("book 1\na 1: 3"), book_of(1, 200)):
            for call in BAD_CALLS:
                self.assertEqual(failure(call, book), (BadShape, {}))

    def test_dependent(self):
        for book, column in (
                (Book(2, []), 0), (Book(4, []), 0), (Book.read("book 2\na 1: 0 5"), 0),
                (Book.read("book 3\na 1: 1 2 0\nb 1: 2 4 1"), 1), (Book.read("book 3\na 1: 1 2 3"), 1),
                (Book.read("book 4\na 1: 1 0 1 0\nb 1: 0 1 1 1\nc 2: 1 1 2 5"), 2),
                (Book(6, [load("a%d" % k, "1", k % 9, k // 9, k % 9 + k // 9, 1, 2, 3) for k in range(200)]), 2)):
            for call in BAD_CALLS:
                self.assertEqual(failure(call, book), (Dependent, {"column": column}))

    def test_the_wanted_column_may_be_a_mixture(self):
        book = Book.read("book 3\na 1: 1 0 2\nb 1: 1 1 5\nc 1: 0 1 3")
        self.assertEqual(len(list(volumes(book))), 3)
        self.assertEqual((texts(mean_shares(book)), mean_cost(book)), (["2", "3"], Ratio(0)))

    def test_limit(self):
        self.assertEqual(len(list(volumes(book_of(3, 100)))), 4950)
        self.assertEqual(len(list(volumes(book_of(2, 200)))), 200)
        for width, many in ((3, 101), (4, 33), (4, 200)):
            for call in BAD_CALLS:
                self.assertEqual(failure(call, book_of(width, many)), (TooHeavy, {"work": comb(many, width - 1)}))

    def test_checks_come_with_the_first_step(self):
        generator = volumes(Book(1, []))
        with self.assertRaises(BadShape):
            next(generator)


class Means(unittest.TestCase):
    def test_known(self):
        book = Book.read("book 2\na 1: 1 1\nb 1: 1 3")
        self.assertEqual((texts(mean_shares(book)), mean_cost(book)), (["2"], Ratio(4)))

    def test_by_definition(self):
        for book in BOOKS:
            fits = []
            for loads in combinations(book.loads, book.width - 1):
                if plain.volume(loads):
                    shares = plain.solved([[Fraction(n) for n in item.numbers[:-1]] for item in loads],
                                          [item.numbers[-1] for item in loads])
                    fits.append((plain.volume(loads), shares))
            total = sum((volume for volume, _ in fits), ZERO)
            shares = [sum((volume * row[k] for volume, row in fits), ZERO) / total for k in range(book.width - 1)]
            got = mean_shares(book)
            self.assertIs(type(got), list)
            self.assertTrue(all(type(share) is Ratio for share in got))
            self.assertEqual([fraction(share) for share in got], shares)
            cost = sum((volume * plain.cost(book, row) for volume, row in fits), ZERO) / total
            self.assertIs(type(mean_cost(book)), Ratio)
            self.assertEqual(fraction(mean_cost(book)), cost)

    def test_what_is_promised(self):
        seen = {True: 0, False: 0}
        for book in BOOKS:
            self.assertEqual(tuple(mean_shares(book)), Fit(book).shares)
            self.assertEqual(cost_of(book, mean_shares(book)), Fit(book).least_cost)
            most = Ratio(book.width) * Fit(book).least_cost
            self.assertLessEqual(mean_cost(book).compare(most), 0)
            exactly = not any(
                determinant_of([[Fraction(n) for n in item.numbers] for item in loads])
                and any(plain.volume(part) == 0 for part in combinations(loads, book.width - 1))
                for loads in combinations(book.loads, book.width))
            self.assertEqual(mean_cost(book) == most, exactly)
            seen[exactly] += 1
        self.assertTrue(all(seen.values()))


if __name__ == "__main__":
    unittest.main()
