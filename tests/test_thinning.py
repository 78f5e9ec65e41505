"""Points 34 to 36: the whole thinning, what it promises, and how little it minds how a book is written."""

import inspect
import unittest

from fewcarry.books.book import Book
from fewcarry.books.load import Load
from fewcarry.books.recasting import recast
from fewcarry.exact.errors import BadQ, TooHeavy
from fewcarry.exact.ratio import Ratio
from fewcarry.grids.grid import Grid
from fewcarry.thins.bars import Bars
from fewcarry.thins.stand import Choice, Stand
from fewcarry.thins.thinning import Thinning
from tests import plain
from tests.support import directions, energy_of, entries, failure, fraction, load, random_books, ratio, ratios, texts

TWO = Ratio(2)
QS = ratios("3/2", "13/12", "3", "2", "4/3")


def some_books():
    made = [book for width in (1, 2, 3) for book in random_books(10 + width, 5, width)]
    made.append(Book(2, [load("a", "1", 1, 0), load("b", "1/2", 2, 0), load("c", "7", 0, 3)]))
    made.append(Book(3, [load("a", "1", 1, 2, 3), load("z", "4", 0, 0, 0), load("b", "5", 1, -1, 1)]))
    made.append(random_books(77, 1, 4, most_loads=7)[0])
    return made


THINNINGS = [Thinning(book, q) for k, book in enumerate(some_books()) for q in (QS[k % 5], QS[(k + 2) % 5])]


def with_numbers(book, numbers_of):
    made = [Load(item.label, item.weight, numbers_of(item)) for item in book]
    return Book(len(numbers_of(book.loads[0])) if made else book.width, made)


def choices_of(thinning):
    return [(c.label, c.low, c.high, c.rate, c.amount) for c in thinning.choices]


def weights_of(thinning):
    return [(item.label, item.weight) for item in thinning.few]



class Made(unittest.TestCase):
    def test_known(self):
        book = Book.read("book 1\na 1: 1\nb 1: 2")
        thinning = Thinning(book, TWO)
        self.assertEqual([c.label for c in thinning.choices], ["b"] * 4)
        self.assertEqual(texts([c.rate for c in thinning.choices]), ["1/2"] * 4)
        self.assertEqual(thinning.few.text(), "book 1\nb 4: 2")
        self.assertEqual(thinning.factor, Ratio(9))
        self.assertIs(thinning.book, book)

    def test_by_definition(self):
        for thinning in THINNINGS:
            choices, weights = plain.thinned(thinning.book, fraction(thinning.bars.q))
            self.assertEqual([(c[0], *[fraction(item) for item in c[1:]]) for c in choices_of(thinning)], choices)
            self.assertEqual({label: fraction(weight) for label, weight in weights_of(thinning)}, weights)

    def test_fields(self):
        for thinning in THINNINGS:
            book, bars = thinning.book, thinning.bars
            self.assertIs(type(bars), Bars)
            self.assertEqual(bars.dimension, book.rank())
            self.assertIs(type(thinning.choices), tuple)
            self.assertEqual(len(thinning.choices), bars.steps)
            self.assertTrue(all(type(choice) is Choice for choice in thinning.choices))
            self.assertEqual(thinning.factor, bars.factor)
            self.assertIs(type(thinning.few), Book)
            self.assertEqual(thinning.few.width, book.width)
            numbers = {item.label: item.numbers for item in book}
            self.assertEqual([item.label for item in thinning.few],
                             [item.label for item in book if item.label in thinning.few])
            for item in thinning.few:
                self.assertEqual(item.numbers, numbers[item.label])

    def test_stands(self):
        for thinning in THINNINGS:
            self.assertTrue(inspect.isgenerator(thinning.stands()))
            stands = list(thinning.stands())
            self.assertTrue(all(type(stand) is Stand for stand in stands))
            self.assertEqual([stand.step for stand in stands], list(range(thinning.bars.steps + 1)))
            self.assertEqual((stands[0].amounts, stands[0].bars.q), ({}, thinning.bars.q))
            for stand, choice, after in zip(stands, thinning.choices, stands[1:]):
                expected = dict(stand.amounts)
                expected[choice.label] = expected.get(choice.label, Ratio(0)) + choice.amount
                self.assertEqual(after.amounts, expected)
                self.assertEqual(stand.choice().label, choice.label)
            last = thinning.bars.floor(thinning.bars.steps)
            self.assertEqual(
                weights_of(thinning),
                [(label, (amount * thinning.book.load(label).weight).divided(last))
                 for label, amount in stands[-1].amounts.items()])
            self.assertEqual(len(list(thinning.stands())), len(stands))

    def test_rank_0(self):
        for book in (Book(3, []), Book.read("book 2\na 1: 0 0\nb 2: 0 0")):
            for q in QS:
                thinning = Thinning(book, q)
                self.assertEqual((thinning.choices, thinning.few), ((), Book(book.width, [])))
                self.assertEqual((thinning.factor, thinning.bars.steps), (Ratio(1), 0))
                stands = list(thinning.stands())
                self.assertEqual([(stand.step, stand.amounts) for stand in stands], [(0, {})])

    def test_bad_q(self):
        heavy = Book(5, [load("a%d" % k, "1", 1, k, k * k % 7, 2, 3 - k) for k in range(200)])
        for q in ratios("1", "0", "49/12", "5", "14/13"):
            for book in (heavy, Book(3, [])):
                self.assertEqual(failure(Thinning, book, q), (BadQ, {"q": q}))


class Work(unittest.TestCase):
    @staticmethod
    def book(many):
        # Of rank 5, and all loads but five are zeros, which count, too.
        loads = [load("a%d" % k, "1", *[int(j == k) for j in range(5)]) for k in range(5)]
        return Book(5, loads + [load("z%d" % k, "1", 0, 0, 0, 0, 0) for k in range(many - 5)])

    def test_limit(self):
        # 80 steps of 145 * 25 + 125 each.
        thinning = Thinning(self.book(145), Ratio(4))
        self.assertEqual(len(thinning.choices), 80)
        for many in (146, 200):
            self.assertEqual(failure(Thinning, self.book(many), Ratio(4)), (TooHeavy, {"work": 80 * (many * 25 + 125)}))

    def test_one_more_step(self):
        # For 47/12 there are 77 steps.
        book = self.book(150)
        self.assertEqual(len(Thinning(book, ratio("47/12")).choices), 77)
        self.assertEqual(failure(Thinning, book, Ratio(4)), (TooHeavy, {"work": 310000}))

    def test_rank_counts_not_width(self):
        loads = [load("a%d" % k, "1", k, *[0] * 11) for k in range(200)]
        self.assertEqual(len(Thinning(Book(12, loads), Ratio(4)).choices), 16)


class WhatItPromises(unittest.TestCase):
    """Point 35."""

    def test_carries(self):
        seen = 0
        for thinning in THINNINGS:
            book, few, factor = thinning.book, thinning.few, fraction(thinning.factor)
            places = book.columns()
            self.assertEqual((few.rank(), few.columns()), (len(places), places))
            self.assertLessEqual(len(few), thinning.bars.steps)
            part = few.square().part(places, places)
            self.assertTrue(plain.is_above_zero(plain.mixed(1, entries(part), -1, entries(book.core()))))
            self.assertTrue(plain.is_above_zero(plain.mixed(factor, entries(book.core()), -1, entries(part))))
            for direction in directions(book.width, 2 if book.width < 3 else 1):
                energy, got = energy_of(book, direction), energy_of(few, direction)
                if energy:
                    self.assertTrue(energy < got < factor * energy)
                    seen += 1
                else:
                    self.assertEqual(got, 0)
        self.assertGreater(seen, 100)

    def test_loads_of_pull_1(self):
        seen = 0
        for thinning in THINNINGS:
            for item in thinning.book:
                if thinning.book.pull(item.label) == Ratio(1):
                    weight = fraction(thinning.few.load(item.label).weight)
                    self.assertTrue(fraction(item.weight) <= weight <= fraction(thinning.factor * item.weight))
                    seen += 1
        self.assertGreater(seen, 3)

    def test_every_load_has_pull_1(self):
        book = Book.read("book 3\na 1: 1 0 0\nb 1/3: 0 5 1\nc 7: 2 2 2")
        self.assertEqual([item.label for item in Thinning(book, TWO).few], ["a", "b", "c"])

    def test_fewer_loads_than_before(self):
        book = Book(2, [load("a%d" % k, "1", k, 7 * k % 11) for k in range(1, 100)])
        thinning = Thinning(book, ratio("3/2"))
        self.assertEqual(thinning.bars.steps, 5)
        self.assertLessEqual(len(thinning.few), 5)


class HowItIsWritten(unittest.TestCase):
    """Point 36."""

    BASES = {1: Grid([[-3]]), 2: Grid([[1, 2], [1, 1]]), 3: Grid([[1, 2, 0], [0, 1, 5], [-1, 0, 2]]),
             4: Grid([[0, 0, 0, 1], [0, 1, 0, 0], [2, 0, 3, 0], [1, 0, 1, 1]])}

    def same(self, one, two):
        self.assertEqual(choices_of(one), choices_of(two))
        self.assertEqual(weights_of(one), weights_of(two))

    def test_recast(self):
        for thinning in THINNINGS:
            book = recast(thinning.book, self.BASES[thinning.book.width])
            self.same(Thinning(book, thinning.bars.q), thinning)

    def test_one_more_column(self):
        for k, thinning in enumerate(THINNINGS):
            place = k % (thinning.book.width + 1)
            book = with_numbers(thinning.book, lambda item: [
                *item.numbers[:place], 2 * item.numbers[0] - 3 * item.numbers[-1], *item.numbers[place:]])
            self.same(Thinning(book, thinning.bars.q), thinning)

    def test_turned_signs(self):
        for thinning in THINNINGS:
            book = with_numbers(thinning.book, lambda item: [
                number * (-1) ** len(item.label + str(item.weight.top)) for number in item.numbers])
            self.same(Thinning(book, thinning.bars.q), thinning)

    def test_scaled(self):
        for thinning, factor in zip(THINNINGS, ratios("2", "1/7", "13/3", "1000", "1/99") * 10):
            other = Thinning(thinning.book.scaled(factor), thinning.bars.q)
            self.assertEqual(choices_of(other), choices_of(thinning))
            self.assertEqual(other.few, thinning.few.scaled(factor) if len(thinning.few) else thinning.few)


if __name__ == "__main__":
    unittest.main()
