"""The examples of the document."""

import unittest

from fewcarry.books.book import Book
from fewcarry.desk.desk import Desk
from fewcarry.desk.question import Question
from fewcarry.exact.errors import BadNumber, BadQuestion
from fewcarry.exact.ratio import Ratio
from fewcarry.exact.simplest import simplest
from fewcarry.exact.span import Span
from fewcarry.fits.fit import Fit
from fewcarry.fits.means import mean_cost, mean_shares
from fewcarry.grids.grid import Grid
from fewcarry.grids.squares import squares_of
from fewcarry.nets.forests import forest_weight
from fewcarry.nets.heights import heights
from fewcarry.nets.net import Net
from fewcarry.nets.resistance import resistance
from fewcarry.rounds.doubts import doubt
from fewcarry.rounds.kinds import first_kind
from fewcarry.thins.bars import Bars
from fewcarry.thins.exactly import exact_few
from fewcarry.thins.thinning import Thinning


class Examples(unittest.TestCase):
    def test_ratio(self):
        a = Ratio(6, -8)
        b = Ratio.read('5/6')
        c = a + b
        self.assertEqual([a.top, a.bottom, c.text(), a.divided(b).text(), a.compare(b)],
                         [-3, 4, '1/12', '-9/10', -1])

    def test_read(self):
        with self.assertRaises(BadNumber) as caught:
            Ratio.read('6/4')
        self.assertEqual(caught.exception.given, '6/4')

    def test_simplest(self):
        a = simplest(Ratio(5, 17), Ratio(3, 8))
        b = simplest(Ratio(5, 2), Ratio(17, 4))
        c = simplest(Ratio(-9, 7), Ratio(-6, 5))
        self.assertEqual([a.text(), b.text(), c.text()], ['1/3', '3', '-5/4'])

    def test_span(self):
        a = Span(Ratio(-1), Ratio(2))
        b = Span(Ratio(3), Ratio(4))
        c = a * b
        d = b - a
        self.assertEqual(
            [c.text(), d.text(), b.divided(Span.point(Ratio(2))).text(), a.at_most(b), b.at_most(a), a.at_most(a)],
            ['[-4, 8]', '[1, 5]', '[3/2, 2]', True, False, None])

    def test_squares(self):
        terms = squares_of(Grid([[2, 1], [1, 2]])).terms
        self.assertEqual(
            [terms[0][0].text(), terms[0][1][1].text(), terms[1][0].text(), terms[1][1][0].text()],
            ['2', '1/2', '3/2', '0'])

    def test_book(self):
        book = Book.read('book 2\na 1: 1 0\nb 1: 0 1\nc 1: 1 1')
        self.assertEqual(
            [book.energy([1, -2]).text(), book.pull('c').text(), book.without('c').rank(), book.core().over],
            ['6', '2/3', 2, 1])

    def test_bars(self):
        bars = Bars(Ratio(2), 1)
        self.assertEqual(
            [bars.steps, bars.ceiling_step.text(), bars.ceiling(4).text(), bars.floor(4).text(), bars.factor.text(),
             bars.finest(2)],
            [4, '3', '18', '2', '9', 36])

    def test_thinning(self):
        thinning = Thinning(Book.read('book 1\na 1: 1\nb 1: 2'), Ratio(2))
        choice = thinning.choices[0]
        self.assertEqual(
            [choice.label, choice.low.text(), choice.high.text(), choice.rate.text(), thinning.few.text()],
            ['b', '4/15', '4/5', '1/2', 'book 1\nb 4: 2'])

    def test_exactly(self):
        self.assertEqual(exact_few(Book.read('book 1\na 1: 1\nb 1: 2')).text(), 'book 1\na 5: 1')

    def test_net(self):
        net = Net.read('nodes a b c\nx a b 1\ny b c 1\nz a c 1')
        h = heights(net, {'a': 3, 'c': -3})
        self.assertEqual(
            [resistance(net, 'a', 'b').text(), forest_weight(net).text(), h['a'].text(), h['b'].text(), h['c'].text()],
            ['2/3', '3', '2', '1', '0'])

    def test_rounds(self):
        self.assertEqual([first_kind(Ratio(5, 4), 2).text(), doubt(Ratio(9), 1).text(), doubt(Ratio(9), 2).text()],
                         ['17/8', '16/25', '64/289'])

    def test_fit(self):
        book = Book.read('book 2\na 1: 1 1\nb 1: 1 3')
        fit = Fit(book)
        self.assertEqual(
            [fit.shares[0].text(), fit.least_cost.text(), mean_shares(book)[0].text(), mean_cost(book).text()],
            ['2', '2', '2', '4'])

    def test_desk(self):
        desk = Desk.replayed(['book a 1 2 9', 'put a x 1 1', 'put a y 1 2', 'thin a'])
        self.assertEqual(
            [desk.summary_of('a').book.text(), desk.ask(Question('2 * energy a [ 1 ]')).text(),
             desk.exact(Question('energy a [ 1 ] <= 5'))],
            ['book 1\nx 5: 1', '[10, 10]', True])

    def test_question(self):
        with self.assertRaises(BadQuestion) as caught:
            Question('energy a [ 1 2')
        self.assertEqual(caught.exception.place, 5)


if __name__ == "__main__":
    unittest.main()
