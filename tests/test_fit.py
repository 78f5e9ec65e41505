"""Points 62 and 63: best fits, and what a few loads tell of them."""

import unittest
from fractions import Fraction
from random import Random

from fewcarry.books.book import Book
from fewcarry.exact.errors import BadQ, BadShape, TooHeavy
from fewcarry.exact.ratio import Ratio
from fewcarry.exact.span import Span
from fewcarry.fits.few_fit import cost_span, fit_by_few
from fewcarry.fits.fit import Fit, cost_of, given_part
from fewcarry.grids.solving import determinant
from fewcarry.thins.fewest import Few, fewest
from fewcarry.thins.thinning import Thinning
from tests import plain
from tests.support import failure, fraction, load, random_books, ratio, ratios, texts

ONE = Ratio(1)
QS = ratios("3/2", "4/3", "3", "2", "13/12")
BOOKS = [book for width in (2, 3, 4) for book in random_books(620 + width, 14, width)]
LINE = Book.read("book 3\na 1: 1 0 1\nb 2: 1 1 3\nc 1/2: 1 2 4\nd 1: 1 3 8")
NARROW = (Book(1, []), Book.read("book 1\na 1: 3"))


def some_shares(book, random):
    return [Ratio(random.randint(-6, 6), random.randint(1, 4)) for _ in range(book.width - 1)]


class Cost(unittest.TestCase):
    def test_known(self):
        self.assertEqual(cost_of(LINE, ratios("1", "2")), ratio("3/2"))
        self.assertEqual(cost_of(LINE, [Ratio(0), Ratio(0)]), Ratio(1 + 18 + 8 + 64))

    def test_by_definition(self):
        random = Random(62)
        for book in BOOKS:
            for _ in range(3):
                shares = some_shares(book, random)
                got = cost_of(book, shares)
                self.assertIs(type(got), Ratio)
                self.assertEqual(fraction(got), plain.cost(book, [fraction(share) for share in shares]))
                self.assertEqual(cost_of(book, tuple(shares)), got)

    def test_errors(self):
        for book in NARROW:
            for shares in ([], [ONE], [ONE, ONE]):
                self.assertEqual(failure(cost_of, book, shares), (BadShape, {}))
        for shares in ([], [ONE], [ONE] * 3):
            self.assertEqual(failure(cost_of, LINE, shares), (BadShape, {}))


class GivenPart(unittest.TestCase):
    def test_given_part(self):
        for book in BOOKS:
            got = given_part(book)
            self.assertIs(type(got), Book)
            self.assertEqual(got.width, book.width - 1)
            self.assertEqual([(item.label, item.weight, item.numbers) for item in got],
                             [(item.label, item.weight, item.numbers[:-1]) for item in book])

    def test_errors(self):
        for book in NARROW:
            self.assertEqual(failure(given_part, book), (BadShape, {}))


class Fitted(unittest.TestCase):
    def test_known(self):
        fit = Fit(LINE)
        self.assertEqual(texts(fit.shares), ["34/45", "34/15"])
        self.assertEqual({label: miss.text() for label, miss in fit.misses.items()},
                         {"a": "-11/45", "b": "1/45", "c": "58/45", "d": "-4/9"})
        fit = Fit(Book.read("book 2\na 1: 1 1\nb 1: 1 3"))
        self.assertEqual((texts(fit.shares), fit.least_cost, fit.misses),
                         (["2"], Ratio(2), {"a": ONE, "b": Ratio(-1)}))

    def test_by_definition(self):
        for book in BOOKS:
            fit = Fit(book)
            self.assertIs(type(fit.shares), tuple)
            self.assertEqual(len(fit.shares), book.width - 1)
            self.assertTrue(all(type(share) is Ratio for share in fit.shares))
            shares = [fraction(share) for share in fit.shares]
            self.assertEqual(shares, plain.best_shares(book))
            self.assertIs(type(fit.least_cost), Ratio)
            self.assertEqual(fraction(fit.least_cost), plain.cost(book, shares))
            self.assertIs(type(fit.misses), dict)
            self.assertEqual(list(fit.misses), [item.label for item in book])
            for item in book:
                miss = sum((x * y for x, y in zip(shares, item.numbers)), Fraction(-item.numbers[-1]))
                self.assertEqual(fraction(fit.misses[item.label]), miss)

    def test_any_other_shares_cost_more(self):
        random = Random(63)
        for book in BOOKS:
            fit = Fit(book)
            for _ in range(4):
                shares = some_shares(book, random)
                more = [fraction(x) - fraction(y) for x, y in zip(shares, fit.shares)]
                self.assertEqual(fraction(cost_of(book, shares)),
                                 fraction(fit.least_cost) + plain.energy_at(given_part(book), more))

    def test_columns_that_are_not_independent(self):
        # The second and the third column are mixtures of the first one, and the last one counts not.
        book = Book.read("book 5\na 1: 1 2 0 0 1\nb 1: 1 2 0 1 2\nc 3: 2 4 0 1 9")
        fit = Fit(book)
        self.assertEqual(texts(fit.shares)[1:3], ["0", "0"])
        self.assertEqual([fraction(share) for share in fit.shares], plain.best_shares(book))
        fit = Fit(Book.read("book 2\na 1: 0 2\nb 3: 0 -1"))
        self.assertEqual((texts(fit.shares), fit.least_cost), (["0"], Ratio(7)))
        self.assertEqual(fit.misses, {"a": Ratio(-2), "b": ONE})

    def test_without_loads(self):
        fit = Fit(Book(4, []))
        self.assertEqual((texts(fit.shares), fit.least_cost, fit.misses), (["0", "0", "0"], Ratio(0), {}))
        self.assertEqual(cost_of(Book(2, []), [Ratio(5)]), Ratio(0))

    def test_determinant(self):
        seen = 0
        for book in BOOKS:
            part = given_part(book)
            if part.rank() == part.width:
                seen += 1
                self.assertEqual(determinant(part.core()) * Fit(book).least_cost, determinant(book.square()))
        self.assertGreater(seen, 5)

    def test_errors(self):
        for book in NARROW:
            self.assertEqual(failure(Fit, book), (BadShape, {}))


class ByFew(unittest.TestCase):
    def test_cost_span(self):
        for k, book in enumerate(BOOKS):
            thinning = Thinning(book, QS[k % 5])
            few = Few(thinning.few, thinning.factor)
            span = cost_span(few)
            self.assertIs(type(span), Span)
            cost = Fit(few.book).least_cost
            self.assertEqual((span.low, span.high), (cost.divided(few.factor), cost))
            self.assertTrue(Fit(book).least_cost in span)
            paid = cost_of(book, Fit(few.book).shares)
            self.assertLessEqual(paid.compare(few.factor * Fit(book).least_cost), 0)
            self.assertEqual(cost_span(Few(book, ONE)), Span.point(Fit(book).least_cost))

    def test_known_cost_span(self):
        few = Few(Book.read("book 2\na 1: 1 1\nb 1: 1 3"), Ratio(9))
        self.assertEqual(cost_span(few).text(), "[2/9, 2]")

    def test_cost_span_errors(self):
        for book in NARROW:
            self.assertEqual(failure(cost_span, Few(book, Ratio(2))), (BadShape, {}))

    def test_fit_by_few(self):
        many = Book(4, [load("a%d" % k, "1", 1, k % 5, k * k % 7, k * k * k % 11 - k) for k in range(20)])
        seen = set()
        for k, book in enumerate(BOOKS + [many] * 5):
            q = QS[k % 5]
            got = fit_by_few(book, q)
            self.assertIs(type(got), tuple)
            fit, factor = got
            few = fewest(book, q)
            self.assertIs(type(fit), Fit)
            self.assertEqual((fit.shares, fit.least_cost, fit.misses), (
                Fit(few.book).shares, Fit(few.book).least_cost, Fit(few.book).misses))
            self.assertEqual(factor, few.factor)
            self.assertLessEqual(cost_of(book, fit.shares).compare(factor * Fit(book).least_cost), 0)
            seen.add(factor == ONE)
        self.assertEqual(seen, {True, False})

    def test_fit_by_few_errors(self):
        for book in NARROW:
            self.assertEqual(failure(fit_by_few, book, Ratio(9)), (BadShape, {}))
        heavy = Book(12, [load("a%d" % k, "1", *[(k * j + j * j + k // 12) % 13 for j in range(12)])
                          for k in range(200)])
        for q in ratios("1", "5", "14/13"):
            self.assertEqual(failure(fit_by_few, heavy, q), (BadQ, {"q": q}))
        self.assertEqual(failure(fit_by_few, heavy, Ratio(4)), failure(fewest, heavy, Ratio(4)))
        self.assertEqual(failure(fit_by_few, heavy, Ratio(4))[0], TooHeavy)


if __name__ == "__main__":
    unittest.main()
