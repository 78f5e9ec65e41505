"""Point 57: doubts, and the rounds that are needed."""

import unittest
from fractions import Fraction

from fewcarry.exact.errors import BadFactor, OutOfBounds
from fewcarry.exact.ratio import Ratio
from fewcarry.rounds.doubts import doubt, rounds_needed
from tests import plain
from tests.support import failure, fraction, ratios

FACTORS = ratios("1", "1000001/1000000", "9/8", "2", "9", "49/4", "725/3", "400", "399")
BAD_FACTORS = ratios("999999/1000000", "0", "-1", "-9", "400000001/1000000", "401", "100000")


class Doubt(unittest.TestCase):
    def test_known(self):
        self.assertEqual([doubt(Ratio(9), k).text() for k in range(3)], ["1", "16/25", "64/289"])
        self.assertEqual([doubt(Ratio(1), k).text() for k in (0, 1, 2, 100)], ["1", "0", "0", "0"])

    def test_by_definition(self):
        for factor in FACTORS[1:]:
            c = fraction(factor)
            for many in (0, 1, 2, 3, 10, 50, 100):
                got = doubt(factor, many)
                self.assertIs(type(got), Ratio)
                self.assertEqual(fraction(got), 1 / plain.kind((c + 1) / (c - 1), many, 1) ** 2)

    def test_never_grows_and_lies_from_0_to_1(self):
        for factor in FACTORS:
            doubts = [doubt(factor, many) for many in range(101)]
            self.assertEqual(doubts[0], Ratio(1))
            for one, after in zip(doubts, doubts[1:]):
                self.assertLessEqual(after.compare(one), 0)
                self.assertGreaterEqual(after.sign(), 0)

    def test_squares_as_factors(self):
        for p in (Fraction(3), Fraction(2), Fraction(21, 19), Fraction(100)):
            c = ((p + 1) / (p - 1)) ** 2
            for many in (0, 1, 2, 7, 30):
                got = doubt(Ratio(c.numerator, c.denominator), many)
                self.assertEqual(fraction(got), (2 / (p ** many + 1 / p ** many)) ** 2)

    def test_errors(self):
        for factor in BAD_FACTORS:
            for many in (0, 5, -1, 101):
                self.assertEqual(failure(doubt, factor, many), (BadFactor, {"factor": factor}))
        for factor in FACTORS:
            for many in (-1, 101, 10 ** 9):
                self.assertEqual(failure(doubt, factor, many), (OutOfBounds, {"value": many}))


class RoundsNeeded(unittest.TestCase):
    def test_known(self):
        self.assertEqual([rounds_needed(Ratio(1), grain) for grain in (1, 2, 1000000)], [0, 1, 1])
        self.assertEqual([rounds_needed(Ratio(9), grain) for grain in (1, 2, 4, 5)], [0, 2, 2, 3])

    def test_by_definition(self):
        for factor in FACTORS:
            for grain in (1, 2, 3, 10, 999, 123456, 1000000):
                wanted = next(many for many in range(101) if fraction(doubt(factor, many)) <= Fraction(1, grain))
                self.assertEqual(rounds_needed(factor, grain), wanted)

    def test_doubt_that_is_met_exactly(self):
        # For the factor 2 the polynomials of the first kind are 3, 17 and 99.
        self.assertEqual([rounds_needed(Ratio(2), grain) for grain in (9, 10, 289, 290, 9801, 9802)],
                         [1, 2, 2, 3, 3, 4])

    def test_greatest(self):
        got = rounds_needed(Ratio(400), 1000000)
        self.assertLessEqual(got, 100)
        self.assertLessEqual(fraction(doubt(Ratio(400), got)), Fraction(1, 1000000))
        self.assertGreater(fraction(doubt(Ratio(400), got - 1)), Fraction(1, 1000000))

    def test_errors(self):
        for factor in BAD_FACTORS:
            for grain in (1, 0, 1000001):
                self.assertEqual(failure(rounds_needed, factor, grain), (BadFactor, {"factor": factor}))
        for factor in FACTORS:
            for grain in (0, -1, 1000001, 10 ** 12):
                self.assertEqual(failure(rounds_needed, factor, grain), (OutOfBounds, {"value": grain}))


if __name__ == "__main__":
    unittest.main()
