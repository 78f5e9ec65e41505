"""Points 58 to 61: the rounds that lead to a balance."""

import unittest
from fractions import Fraction
from random import Random

from fewcarry.books.balance import balance, power_of
from fewcarry.books.book import Book
from fewcarry.certificates.claim import Claim
from fewcarry.certificates.closest import greatest_low
from fewcarry.certificates.judging import judge
from fewcarry.exact.errors import BadFactor, BadShape, NoStep, NotCarried, OutOfBounds, OutOfReach
from fewcarry.exact.ratio import Ratio
from fewcarry.exact.span import Span
from fewcarry.rounds.course import Rounds
from fewcarry.rounds.doubts import doubt
from fewcarry.thins.fewest import Few, fewest
from fewcarry.thins.thinning import Thinning
from tests import plain
from tests.support import failure, fraction, random_books, ratio, ratios

ONE = Ratio(1)
TWO = Ratio(2)
QS = ratios("3/2", "4/3", "3", "2", "5/4")
BOOK = Book.read("book 3\na 1: 1 0 0\nb 2: 0 1 0\nc 1/2: 1 1 0\nd 1: 1 -1 0")
FEW = Few(BOOK.scaled(TWO), Ratio(9))


def some_cases():
    """Pairs of a Few and a book that it carries, with a push that the book can take."""
    random = Random(58)
    made = []
    books = [book for width in (1, 2, 3) for book in random_books(580 + width, 6, width)] + [BOOK]
    for k, book in enumerate(books):
        thinning = Thinning(book, QS[k % 5])
        # Any push that is made of the loads can be taken.
        push = [0] * book.width
        for item in book:
            times = random.randint(-2, 2)
            push = [x + times * y for x, y in zip(push, item.numbers)]
        made.append((Few(thinning.few, thinning.factor), book, push))
        made.append((Few(book, ONE), book, push))
        if len(book) and k % 3 == 0:
            made.append((Few(book.scaled(ratio("5/3")), Ratio(2)), book, push))
    return made


CASES = some_cases()


def sums(left, right):
    return sum((x * y for x, y in zip(left, right)), Fraction(0))


class Made(unittest.TestCase):
    def test_fields(self):
        push = [1, 2, 0]
        rounds = Rounds(FEW, BOOK, push)
        self.assertIs(rounds.few, FEW)
        self.assertIs(rounds.whole, BOOK)
        self.assertEqual((rounds.push, rounds.many, rounds.numbers), ((1, 2, 0), 0, (Ratio(0),) * 3))
        self.assertIs(type(rounds.push), tuple)
        self.assertIs(type(rounds.numbers), tuple)
        push.append(7)
        self.assertEqual(rounds.push, (1, 2, 0))

    def test_shape(self):
        for width in (1, 2, 4):
            heavy = Few(Book(width, []), Ratio(1000))
            self.assertEqual(failure(Rounds, heavy, BOOK, [1]), (BadShape, {}))

    def test_factor(self):
        for factor in ratios("401", "400000001/1000000", "10000"):
            # This Few does not carry the book, and the push has another length.
            self.assertEqual(failure(Rounds, Few(Book(3, []), factor), BOOK, [1]), (BadFactor, {"factor": factor}))
        self.assertEqual(Rounds(Few(BOOK, Ratio(400)), BOOK, [0, 0, 0]).many, 0)

    def test_not_carried(self):
        light = Few(BOOK.scaled(ratio("9/10")), Ratio(9))
        heavy = Few(BOOK.scaled(Ratio(10)), Ratio(9))
        for few, side in ((light, "low"), (heavy, "high")):
            error, fields = failure(Rounds, few, BOOK, [1])
            self.assertEqual((error, fields["side"]), (NotCarried, side))
            self.assertEqual((error, fields), failure(judge, Claim.of(few, BOOK)))

    def test_push(self):
        for push in ([1, 2], [], [0, 0, 0, 0]):
            self.assertEqual(failure(Rounds, FEW, BOOK, push), (BadShape, {}))
        for push in ([0, 0, 1], [1, 2, -3]):
            self.assertEqual(failure(Rounds, FEW, BOOK, push), (OutOfReach, {"push": tuple(push)}))


class Done(unittest.TestCase):
    def test_numbers_by_definition(self):
        for few, whole, push in CASES:
            rounds = Rounds(few, whole, push)
            for many, wanted in enumerate(plain.rounds(few, whole, push, 5)):
                self.assertEqual(rounds.many, many)
                self.assertIs(type(rounds.numbers), tuple)
                self.assertTrue(all(type(number) is Ratio for number in rounds.numbers))
                self.assertEqual([fraction(number) for number in rounds.numbers], wanted)
                self.assertIs(rounds.advance(), None)

    def test_many_rounds_by_definition(self):
        for few, whole, push in CASES[::7]:
            rounds = Rounds(few, whole, push)
            rounds.run(20)
            self.assertEqual([fraction(number) for number in rounds.numbers], plain.rounds(few, whole, push, 20)[-1])

    def test_run(self):
        rounds = Rounds(FEW, BOOK, [1, 2, 0])
        step_by_step = Rounds(FEW, BOOK, [1, 2, 0])
        for many in (0, 3, 3, 4, 10):
            self.assertIs(rounds.run(many), None)
            while step_by_step.many < many:
                step_by_step.advance()
            self.assertEqual((rounds.many, rounds.numbers), (many, step_by_step.numbers))

    def test_run_errors(self):
        rounds = Rounds(FEW, BOOK, [1, 2, 0])
        rounds.run(5)
        numbers = rounds.numbers
        for many in (4, 0, -1, 101, 1000):
            self.assertEqual(failure(rounds.run, many), (OutOfBounds, {"value": many}))
            self.assertEqual((rounds.many, rounds.numbers), (5, numbers))

    def test_last_round(self):
        rounds = Rounds(FEW, BOOK, [1, 2, 0])
        rounds.run(99)
        self.assertIs(rounds.advance(), None)
        numbers = rounds.numbers
        self.assertEqual(failure(rounds.advance), (NoStep, {}))
        self.assertEqual((rounds.many, rounds.numbers), (100, numbers))
        rounds.run(100)
        self.assertEqual(failure(rounds.run, 99), (OutOfBounds, {"value": 99}))
        rounds = Rounds(FEW, BOOK, [1, 2, 0])
        rounds.run(100)
        self.assertEqual(rounds.numbers, numbers)

    def test_factor_1(self):
        for few, whole, push in CASES:
            if few.factor == ONE:
                rounds = Rounds(few, whole, push)
                for _ in range(3):
                    rounds.advance()
                    self.assertEqual(list(rounds.numbers), balance(whole, push))

    def test_push_of_zeros(self):
        for few, whole, _ in CASES:
            rounds = Rounds(few, whole, [0] * whole.width)
            for _ in range(3):
                rounds.advance()
                self.assertEqual(rounds.numbers, (Ratio(0),) * whole.width)
                self.assertEqual(rounds.power_span(), Span.point(Ratio(0)))

    def test_without_loads(self):
        whole = Book(2, [])
        rounds = Rounds(fewest(whole, TWO), whole, [0, 0])
        rounds.run(100)
        self.assertEqual((rounds.numbers, rounds.power_span().text()), ((Ratio(0), Ratio(0)), "[0, 0]"))
        self.assertEqual(failure(Rounds, Few(whole, TWO), whole, [0, 1]), (OutOfReach, {"push": (0, 1)}))

    def test_greatest_factor(self):
        few = Few(Book.read("book 2\na 1: 1 0\nb 400: 0 1"), Ratio(400))
        whole = Book.read("book 2\na 1: 1 0\nb 1: 0 1")
        rounds = Rounds(few, whole, [3, -1])
        rounds.run(100)
        self.assertEqual([fraction(number) for number in rounds.numbers], plain.rounds(few, whole, [3, -1], 100)[-1])


class WhatIsSure(unittest.TestCase):
    def test_doubt(self):
        for few, whole, push in CASES:
            rounds = Rounds(few, whole, push)
            power = fraction(power_of(whole, push))
            wanted = [fraction(number) for number in balance(whole, push)]
            for many in range(5):
                left = rounds.current_doubt()
                self.assertEqual(left, doubt(few.factor, many))
                missing = [x - fraction(y) for x, y in zip(wanted, rounds.numbers)]
                self.assertLessEqual(plain.energy_at(whole, missing), fraction(left) * power)
                rounds.advance()

    def test_power_span_by_definition(self):
        for few, whole, push in CASES:
            rounds = Rounds(few, whole, push)
            c = fraction(few.factor)
            p = fraction(power_of(few.book, push))
            for many in range(4):
                numbers = [fraction(number) for number in rounds.numbers]
                v = 2 * sums(push, numbers) - plain.energy_at(whole, numbers)
                low, high = p, c * p
                left = fraction(rounds.current_doubt())
                if left < 1:
                    low, high = max(low, v), min(high, v / (1 - left))
                span = rounds.power_span()
                self.assertIs(type(span), Span)
                self.assertEqual((fraction(span.low), fraction(span.high)), (low, high))
                self.assertTrue(power_of(whole, push) in span)
                rounds.advance()

    def test_known_power_span(self):
        few = Few(Book.read("book 1\na 4: 1"), Ratio(9))
        rounds = Rounds(few, Book.read("book 1\na 1: 1"), [4])
        self.assertEqual(rounds.power_span().text(), "[4, 36]")
        rounds.advance()
        # The numbers are 9/5, so the value is 279/25, and the doubt is 16/25.
        self.assertEqual([number.text() for number in rounds.numbers], ["9/5"])
        self.assertEqual(rounds.power_span().text(), "[279/25, 31]")

    def test_guess_and_miss(self):
        random = Random(61)
        for few, whole, push in CASES:
            rounds = Rounds(few, whole, push)
            goals = [list(item.numbers) for item in whole][:3] + [[0] * whole.width, push]
            for _ in range(4):
                for goal in goals:
                    guess, miss = rounds.guess(goal), rounds.miss(goal)
                    self.assertIs(type(guess), Ratio)
                    self.assertIs(type(miss), Ratio)
                    self.assertEqual(fraction(guess), sums(goal, [fraction(n) for n in rounds.numbers]))
                    self.assertEqual(miss, few.factor * power_of(few.book, goal) * rounds.current_doubt()
                                     * rounds.power_span().high)
                    true = sums(goal, [fraction(n) for n in balance(whole, push)])
                    self.assertLessEqual((true - fraction(guess)) ** 2, fraction(miss))
                rounds.run(rounds.many + random.randint(1, 3))

    def test_errors_of_goals(self):
        rounds = Rounds(FEW, BOOK, [1, 2, 0])
        for call in (rounds.guess, rounds.miss):
            for goal in ([], [1, 2], [0] * 4):
                self.assertEqual(failure(call, goal), (BadShape, {}))
            for goal in ([0, 0, 1], [5, 0, -5]):
                self.assertEqual(failure(call, goal), (OutOfReach, {"push": tuple(goal)}))

    def test_asking_changes_nothing(self):
        rounds = Rounds(FEW, BOOK, [1, 2, 0])
        rounds.run(2)
        goal, numbers = [1, 0, 0], rounds.numbers
        for _ in range(2):
            rounds.guess(goal), rounds.miss(goal), rounds.power_span(), rounds.current_doubt()
        self.assertEqual((goal, rounds.many, rounds.numbers), ([1, 0, 0], 2, numbers))
        self.assertEqual(greatest_low(FEW.book, BOOK, 1), TWO)


if __name__ == "__main__":
    unittest.main()
