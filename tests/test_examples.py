"""The examples of the document, as far as the program goes."""

import unittest

from fewcarry.books.book import Book
from fewcarry.exact.errors import BadNumber
from fewcarry.exact.ratio import Ratio
from fewcarry.exact.simplest import simplest
from fewcarry.exact.span import Span
from fewcarry.grids.grid import Grid
from fewcarry.grids.squares import squares_of
from fewcarry.thins.bars import Bars
from fewcarry.thins.exactly import exact_few
from fewcarry.thins.thinning import Thinning


class Examples(unittest.TestCase):
    def test_ratio(self):
        a = Ratio(6, -8)
        b = Ratio.read('5/6')
        c = a + b
        self.assertEqual([a.top, a.bottom, c.text(), a.divided(b).text(), a.compare(b)],
                         [-3, 4, '1/12', '-9/10', -1])

    def test_read(self):
        with self.assertRaises(BadNumber) as caught:
            Ratio.read('6/4')
        self.assertEqual(caught.exception.given, '6/4')

    def test_simplest(self):
        a = simplest(Ratio(5, 17), Ratio(3, 8))
        b = simplest(Ratio(5, 2), Ratio(17, 4))
        c = simplest(Ratio(-9, 7), Ratio(-6, 5))
        self.assertEqual([a.text(), b.text(), c.text()], ['1/3', '3', '-5/4'])

    def test_span(self):
        a = Span(Ratio(-1), Ratio(2))
        b = Span(Ratio(3), Ratio(4))
        c = a * b
        d = b - a
        self.assertEqual(
            [c.text(), d.text(), b.divided(Span.point(Ratio(2))).text(), a.at_most(b), b.at_most(a), a.at_most(a)],
            ['[-4, 8]', '[1, 5]', '[3/2, 2]', True, False, None])

    def test_squares(self):
        terms = squares_of(Grid([[2, 1], [1, 2]])).terms
        self.assertEqual(
            [terms[0][0].text(), terms[0][1][1].text(), terms[1][0].text(), terms[1][1][0].text()],
            ['2', '1/2', '3/2', '0'])

    def test_book(self):
        book = Book.read('book 2\na 1: 1 0\nb 1: 0 1\nc 1: 1 1')
        self.assertEqual(
            [book.energy([1, -2]).text(), book.pull('c').text(), book.without('c').rank(), book.core().over],
            ['6', '2/3', 2, 1])

    def test_bars(self):
        bars = Bars(Ratio(2), 1)
        self.assertEqual(
            [bars.steps, bars.ceiling_step.text(), bars.ceiling(4).text(), bars.floor(4).text(), bars.factor.text(),
             bars.finest(2)],
            [4, '3', '18', '2', '9', 36])

    def test_thinning(self):
        thinning = Thinning(Book.read('book 1\na 1: 1\nb 1: 2'), Ratio(2))
        choice = thinning.choices[0]
        self.assertEqual(
            [choice.label, choice.low.text(), choice.high.text(), choice.rate.text(), thinning.few.text()],
            ['b', '4/15', '4/5', '1/2', 'book 1\nb 4: 2'])

    def test_exactly(self):
        self.assertEqual(exact_few(Book.read('book 1\na 1: 1\nb 1: 2')).text(), 'book 1\na 5: 1')


if __name__ == "__main__":
    unittest.main()
