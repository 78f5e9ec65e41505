"""Point 23: pulls, and the directions that show them."""

import unittest

from fewcarry.books.book import Book
from fewcarry.books.directions import strongest_direction
from fewcarry.books.load import Load
from fewcarry.exact.errors import NoEnergy, NoLabel
from fewcarry.exact.ratio import Ratio
from fewcarry.grids.order import at_most
from fewcarry.grids.solving import determinant, inverse
from tests.support import directions, energy_of, failure, fraction, load, random_books, ratio, texts

TRIANGLE = Book(2, [load("a", "1", 1, 0), load("b", "1", 0, 1), load("c", "1", 1, 1)])
ONE = Ratio(1)


def books():
    return [book for width in (1, 2, 3, 4) for book in random_books(230 + width, 20, width, 6)]


def share(book, label, direction):
    """The share that a load has of the energy, a Fraction."""
    item = book.load(label)
    return energy_of(Book(book.width, [item]), direction) / energy_of(book, direction)


class Pulls(unittest.TestCase):
    def test_known(self):
        got = TRIANGLE.pull("c")
        self.assertIs(type(got), Ratio)
        self.assertEqual(got.text(), "2/3")
        self.assertIs(type(TRIANGLE.pulls()), list)
        self.assertEqual(texts(TRIANGLE.pulls()), ["2/3", "2/3", "2/3"])
        book = Book(1, [load("b", "3", 2), load("a", "1/2", 4), load("c", "7", 0)])
        self.assertEqual(texts(book.pulls()), ["3/5", "2/5", "0"])
        self.assertEqual(book.pull("a").text(), "2/5")

    def test_by_definition(self):
        for book in books():
            g = inverse(book.core())
            for item, pull in zip(book, book.pulls()):
                row = book.reduced(item.label)
                self.assertEqual(pull, item.weight * g.form(row, row))
                self.assertEqual(book.pull(item.label), pull)

    def test_bounds_and_sum(self):
        for book in books():
            total = Ratio(0)
            for item, pull in zip(book, book.pulls()):
                self.assertTrue(0 <= fraction(pull) <= 1)
                self.assertEqual(pull.sign() == 0, not any(item.numbers))
                total = total + pull
            self.assertEqual(total, Ratio(book.rank()))

    def test_greatest_share(self):
        for book in books():
            for direction in directions(book.width, 2 if book.width < 4 else 1):
                if energy_of(book, direction) > 0:
                    for item, pull in zip(book, book.pulls()):
                        self.assertLessEqual(share(book, item.label, direction), fraction(pull))

    def test_what_the_book_is_without_the_load(self):
        lesser = 0
        for book in books():
            places = book.columns()
            for item, pull in zip(book, book.pulls()):
                rest = book.without(item.label)
                left = ONE - pull
                self.assertEqual(pull == ONE, rest.rank() < book.rank())
                lesser += pull == ONE
                self.assertTrue(at_most(book.square().scaled(left), rest.square()))
                if book.rank():
                    more = left + Ratio(1, 1000)
                    self.assertFalse(at_most(book.square().scaled(more), rest.square()))
                self.assertEqual(determinant(rest.square().part(places, places)), left * determinant(book.core()))
        self.assertGreater(lesser, 20)

    def test_without_energy(self):
        self.assertEqual(Book(3, []).pulls(), [])
        book = Book(3, [load("a", "2", 0, 0, 0)])
        self.assertEqual((texts(book.pulls()), book.pull("a").text()), (["0"], "0"))

    def test_no_label(self):
        for label in ("d", "", "A", "abcdefghi"):
            self.assertEqual(failure(TRIANGLE.pull, label), (NoLabel, {"label": label}))
        self.assertEqual(failure(Book(1, []).pull, "a"), (NoLabel, {"label": "a"}))

    def test_many_loads(self):
        book = Book(12, [Load("x%d" % k, Ratio(k + 1, 7), [(k * j + k) % 5 - 2 for j in range(12)])
                         for k in range(200)])
        total = Ratio(0)
        for pull in book.pulls():
            total = total + pull
        self.assertEqual(total, Ratio(book.rank()))


class StrongestDirection(unittest.TestCase):
    def test_known(self):
        got = strongest_direction(TRIANGLE, "c")
        self.assertIs(type(got), list)
        self.assertEqual(energy_of(TRIANGLE, got) * 2, 3 * sum(got) ** 2)
        self.assertNotEqual(got, [0, 0])

    def test_share_is_the_pull(self):
        tried = 0
        for book in books():
            for item in book:
                if any(item.numbers):
                    tried += 1
                    got = strongest_direction(book, item.label)
                    self.assertEqual([type(number) for number in got], [int] * book.width)
                    self.assertGreater(energy_of(book, got), 0)
                    self.assertEqual(share(book, item.label, got), fraction(book.pull(item.label)))
        self.assertGreater(tried, 100)

    def test_large_weights(self):
        book = Book(2, [Load("a", Ratio(10 ** 100, 7), [9999, -9999]), load("b", "1/9999", 1, 2)])
        for label in ("a", "b"):
            got = strongest_direction(book, label)
            self.assertEqual(share(book, label, got), 1)

    def test_errors(self):
        book = Book(2, [load("a", "1", 0, 0), load("b", "1", 0, 3)])
        self.assertEqual(failure(strongest_direction, book, "a"), (NoEnergy, {"label": "a"}))
        for label in ("c", "", "A"):
            self.assertEqual(failure(strongest_direction, book, label), (NoLabel, {"label": label}))
        self.assertEqual(failure(strongest_direction, Book(1, [load("a", "1", 0)]), "a"), (NoEnergy, {"label": "a"}))
        self.assertEqual(failure(strongest_direction, Book(1, []), "a"), (NoLabel, {"label": "a"}))

    def test_number_beside_zeros(self):
        book = Book(3, [load("a", ratio("1/3").text(), 0, 0, 5)])
        got = strongest_direction(book, "a")
        self.assertNotEqual(got[2], 0)
        self.assertEqual(share(book, "a", got), 1)


if __name__ == "__main__":
    unittest.main()
