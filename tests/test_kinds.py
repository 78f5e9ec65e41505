"""Point 56: the Chebyshev polynomials of both kinds."""

import unittest

from fewcarry.exact.errors import OutOfBounds
from fewcarry.exact.ratio import Ratio
from fewcarry.rounds.kinds import first_kind, second_kind
from tests import plain
from tests.support import failure, fraction, ratio, ratios

VALUES = ratios("0", "1", "-1", "2", "1/2", "5/4", "-7/3", "401/399", "22/7", "-1/9", "1000001/1000")


class Kinds(unittest.TestCase):
    def test_known(self):
        self.assertEqual(first_kind(ratio("5/4"), 2), ratio("17/8"))
        self.assertEqual([first_kind(Ratio(3), k) for k in range(5)], [Ratio(n) for n in (1, 3, 17, 99, 577)])
        self.assertEqual([second_kind(Ratio(3), k) for k in range(5)], [Ratio(n) for n in (1, 6, 35, 204, 1189)])

    def test_by_definition(self):
        for value in VALUES:
            for many in (0, 1, 2, 3, 4, 7, 12, 30, 99, 100):
                for call, start in ((first_kind, 1), (second_kind, 2)):
                    got = call(value, many)
                    self.assertIs(type(got), Ratio)
                    self.assertEqual(fraction(got), plain.kind(fraction(value), many, start))

    def test_both_kinds(self):
        for value in VALUES:
            for many in (1, 2, 3, 10, 57, 100):
                left = first_kind(value, many) * first_kind(value, many)
                other = second_kind(value, many - 1)
                self.assertEqual(left, Ratio(1) + (value * value - Ratio(1)) * other * other)

    def test_powers(self):
        half = Ratio(1, 2)
        for p in ratios("2", "-3", "1/5", "7/4"):
            value = half * (p + Ratio(1).divided(p))
            for many in (0, 1, 2, 5, 20, 64):
                power = p ** many
                self.assertEqual(first_kind(value, many), half * (power + Ratio(1).divided(power)))

    def test_long_numbers(self):
        value = Ratio(10 ** 300 + 7, 10 ** 299 + 3)
        self.assertEqual(fraction(first_kind(value, 20)), plain.kind(fraction(value), 20, 1))

    def test_many(self):
        for call in (first_kind, second_kind):
            for many in (-1, 101, 1000, -10 ** 20):
                self.assertEqual(failure(call, ratio("5/4"), many), (OutOfBounds, {"value": many}))


if __name__ == "__main__":
    unittest.main()
