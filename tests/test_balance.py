"""Point 25: pushes and their power."""

import unittest
from fractions import Fraction
from random import Random

from fewcarry.books.balance import balance, power_of, value_at
from fewcarry.books.book import Book
from fewcarry.exact.errors import BadShape, OutOfReach
from fewcarry.exact.ratio import Ratio
from fewcarry.grids.grid import Grid
from tests.support import directions, energy_of, failure, fraction, load, of_fraction, random_books, ratios, texts

BOOK = Book(3, [load("a", "2", 1, 1, 0), load("b", "1/3", 0, 0, 3)])


def books():
    return [book for width in (1, 2, 3, 4) for book in random_books(250 + width, 25, width)]


def with_pushes(seed):
    """Books with pushes, some of which they can take."""
    random = Random(seed)
    for book in books():
        for _ in range(3):
            yield book, [random.randint(-2, 2) for _ in range(book.width)]
        for item in list(book)[:2]:
            yield book, [random.choice((-1, 2)) * number for number in item.numbers]
        yield book, [0] * book.width


def can_take(book, push):
    """By the definition, in all directions of small numbers."""
    for direction in directions(book.width, 3 if book.width < 4 else 2):
        if energy_of(book, direction) == 0 and sum(x * y for x, y in zip(push, direction)):
            return False
    return True


class Balance(unittest.TestCase):
    def test_known(self):
        got = balance(BOOK, [4, 4, 1])
        self.assertIs(type(got), list)
        self.assertEqual([type(item) for item in got], [Ratio] * 3)
        self.assertEqual(texts(got), ["2", "0", "1/3"])
        self.assertEqual(texts(balance(BOOK, (0, 0, 0))), ["0", "0", "0"])
        self.assertEqual(texts(balance(BOOK, [-1, -1, 0])), ["-1/2", "0", "0"])

    def test_by_definition(self):
        taken, refused = 0, 0
        for book, push in with_pushes(25):
            try:
                got = balance(book, push)
            except OutOfReach as error:
                refused += 1
                self.assertEqual(error.push, tuple(push))
                self.assertLess(book.rank(), book.width)
                with self.assertRaises(OutOfReach):
                    power_of(book, push)
                continue
            taken += 1
            self.assertTrue(can_take(book, push))
            column = book.square() * Grid.of([[item] for item in got])
            self.assertEqual(column, Grid([[number] for number in push]))
            for place in range(book.width):
                if place not in book.columns():
                    self.assertEqual(got[place], Ratio(0))
        self.assertGreater(min(taken, refused), 50)

    def test_refused_are_those_that_the_book_cannot_take(self):
        for push in directions(3, 2):
            fine = push[0] == push[1]
            self.assertEqual(can_take(BOOK, push), fine)
            if fine:
                self.assertEqual(len(balance(BOOK, push)), 3)
            else:
                self.assertEqual(failure(balance, BOOK, push), (OutOfReach, {"push": tuple(push)}))
                self.assertEqual(failure(power_of, BOOK, push), (OutOfReach, {"push": tuple(push)}))

    def test_without_energy(self):
        for book in (Book(2, []), Book(2, [load("a", "1", 0, 0)])):
            self.assertEqual(texts(balance(book, [0, 0])), ["0", "0"])
            self.assertEqual(power_of(book, [0, 0]), Ratio(0))
            self.assertEqual(failure(balance, book, [0, 1]), (OutOfReach, {"push": (0, 1)}))
            self.assertEqual(failure(power_of, book, [1, 0]), (OutOfReach, {"push": (1, 0)}))

    def test_length_of_the_push(self):
        for push in ([], [1], [1, 1], [1, 1, 1, 1], [0, 0, 0, 0]):
            for call in (balance, power_of):
                self.assertEqual(failure(call, BOOK, push), (BadShape, {}))
                self.assertEqual(failure(call, Book(3, []), push), (BadShape, {}))

    def test_list_is_new_and_the_push_stays(self):
        push = [4, 4, 1]
        got = balance(BOOK, push)
        got[0] = Ratio(9)
        self.assertEqual((push, texts(balance(BOOK, push))), ([4, 4, 1], ["2", "0", "1/3"]))

    def test_push_in_the_error_is_a_copy(self):
        push = [1, 0, 0]
        with self.assertRaises(OutOfReach) as caught:
            balance(BOOK, push)
        push[0] = 5
        self.assertEqual(caught.exception.push, (1, 0, 0))


class Power(unittest.TestCase):
    def test_known(self):
        got = power_of(BOOK, [4, 4, 1])
        self.assertIs(type(got), Ratio)
        self.assertEqual(got.text(), "25/3")
        self.assertEqual(power_of(BOOK, [-1, -1, 2]).text(), "11/6")

    def test_greatest_value(self):
        random = Random(251)
        for book, push in with_pushes(252):
            try:
                power = fraction(power_of(book, push))
            except OutOfReach:
                continue
            shares = [fraction(item) for item in balance(book, push)]
            self.assertGreaterEqual(power, 0)
            for reach in (0, 1, 1, 3):
                tried = [share + Fraction(random.randint(-reach, reach), 2) for share in shares]
                worth = fraction(value_at(book, [of_fraction(number) for number in tried]))
                value = 2 * sum(x * y for x, y in zip(push, tried)) - worth
                self.assertLessEqual(value, power)
                if reach == 0:
                    self.assertEqual(value, power)


class ValueAt(unittest.TestCase):
    def test_known(self):
        got = value_at(BOOK, ratios("1/2", "1/3", "-1/5"))
        self.assertIs(type(got), Ratio)
        self.assertEqual(got.text(), "679/450")
        self.assertEqual(value_at(BOOK, tuple(ratios("0", "0", "0"))), Ratio(0))
        self.assertEqual(value_at(Book(1, []), ratios("5/7")), Ratio(0))

    def test_by_definition(self):
        random = Random(253)
        for book in books():
            numbers = [Ratio(random.randint(-9, 9), random.randint(1, 6)) for _ in range(book.width)]
            self.assertEqual(fraction(value_at(book, numbers)), energy_of(book, [fraction(x) for x in numbers]))
            whole = [random.randint(-5, 5) for _ in range(book.width)]
            self.assertEqual(value_at(book, [Ratio(number) for number in whole]), book.energy(whole))

    def test_length(self):
        for numbers in ([], ["1"], ["1", "1"], ["1/2", "1", "1", "1"]):
            self.assertEqual(failure(value_at, BOOK, ratios(*numbers)), (BadShape, {}))


if __name__ == "__main__":
    unittest.main()
