"""Point 27: the numbers of a thinning."""

import unittest
from fractions import Fraction
from math import ceil

from fewcarry.exact.errors import BadQ, OutOfBounds
from fewcarry.exact.ratio import Ratio
from fewcarry.thins.bars import Bars
from tests.support import failure, fraction, ratio, texts

QS = ["13/12", "12/11", "7/6", "4/3", "3/2", "2", "23/10", "5/2", "3", "47/12", "4"]
RATIOS = ("ceiling_step", "floor_step", "ceiling_limit", "floor_limit", "factor", "bound")


def every():
    return [Bars(ratio(q), dimension) for q in QS for dimension in range(13)]


class Fields(unittest.TestCase):
    def test_known(self):
        bars = Bars(ratio("3/2"), 3)
        self.assertEqual((bars.q, bars.dimension, bars.steps), (Ratio(3, 2), 3, 7))
        self.assertEqual(texts([getattr(bars, name) for name in RATIOS]),
                         ["5", "1", "2/15", "2/3", "23", "25"])
        bars = Bars(Ratio(4), 12)
        self.assertEqual((bars.steps, bars.factor.text(), bars.bound.text()), (192, "25/9", "25/9"))
        bars = Bars(ratio("13/12"), 12)
        self.assertEqual((bars.steps, bars.bound.text()), (15, "625"))

    def test_by_definition(self):
        for bars in every():
            q, n = fraction(bars.q), bars.dimension
            self.assertEqual(bars.steps, ceil(q * q * n))
            self.assertEqual(fraction(bars.ceiling_step), (q + 1) / (q - 1))
            self.assertEqual(bars.floor_step, Ratio(1))
            self.assertEqual(fraction(bars.ceiling_limit), (q - 1) / (q * (q + 1)))
            self.assertEqual(fraction(bars.floor_limit), 1 / q)
            self.assertEqual(fraction(bars.bound), ((q + 1) / (q - 1)) ** 2)
            for name in RATIOS:
                self.assertIs(type(getattr(bars, name)), Ratio)
            self.assertEqual(1 / fraction(bars.ceiling_step) + fraction(bars.ceiling_limit), 1 - 1 / q)
            self.assertEqual(1 / fraction(bars.floor_step) - fraction(bars.floor_limit), 1 - 1 / q)

    def test_factor(self):
        for bars in every():
            if bars.dimension:
                last = bars.ceiling(bars.steps).divided(bars.floor(bars.steps))
                self.assertEqual(bars.factor, last)
            else:
                self.assertEqual((bars.factor, bars.steps), (Ratio(1), 0))
            self.assertLessEqual(fraction(bars.factor), fraction(bars.bound))


class TheTwoBars(unittest.TestCase):
    def test_known(self):
        bars = Bars(Ratio(2), 1)
        self.assertEqual(texts([bars.ceiling(step) for step in range(5)]), ["6", "9", "12", "15", "18"])
        self.assertEqual(texts([bars.floor(step) for step in range(5)]), ["-2", "-1", "0", "1", "2"])
        bars = Bars(ratio("3/2"), 1)
        self.assertEqual((bars.ceiling(1).text(), bars.floor(1).text()), ("25/2", "-1/2"))

    def test_by_definition(self):
        for bars in every():
            q, n = fraction(bars.q), bars.dimension
            for step in range(bars.steps + 1):
                self.assertEqual(fraction(bars.ceiling(step)), fraction(bars.ceiling_step) * (q * n + step))
                self.assertEqual(fraction(bars.floor(step)), step - q * n)
            self.assertIs(type(bars.ceiling(0)), Ratio)
            self.assertIs(type(bars.floor(0)), Ratio)

    def test_steps_out_of_bounds(self):
        for bars in (Bars(Ratio(2), 1), Bars(Ratio(2), 0), Bars(ratio("3/2"), 3)):
            for step in (-1, bars.steps + 1, bars.steps + 100):
                self.assertEqual(failure(bars.ceiling, step), (OutOfBounds, {"value": step}))
                self.assertEqual(failure(bars.floor, step), (OutOfBounds, {"value": step}))
        self.assertEqual((Bars(Ratio(2), 0).ceiling(0), Bars(Ratio(2), 0).floor(0)), (Ratio(0), Ratio(0)))


class Finest(unittest.TestCase):
    def test_known(self):
        self.assertEqual(Bars(Ratio(2), 1).finest(2), 36)
        self.assertEqual(Bars(Ratio(2), 0).finest(1), 6)
        self.assertEqual(Bars(ratio("3/2"), 1).finest(1), 19)

    def test_by_definition(self):
        for bars in every():
            q, n = fraction(bars.q), bars.dimension
            for many in (0, 1, 2, 7, 199, 200):
                got = bars.finest(many)
                self.assertIs(type(got), int)
                self.assertEqual(got, ceil(Fraction(many) * q * (q + 1) * (q * n + 1) / (q - 1)))

    def test_bounds(self):
        for many in (-1, 201, 1000):
            self.assertEqual(failure(Bars(Ratio(2), 1).finest, many), (OutOfBounds, {"value": many}))


class Errors(unittest.TestCase):
    def test_q(self):
        for q in ("1", "0", "-2", "1/2", "12/13", "49/12", "5", "14/13", "27/13", "100/99", "4000001/1000000", "53/13"):
            self.assertEqual(failure(Bars, ratio(q), 1), (BadQ, {"q": ratio(q)}))
            self.assertEqual(failure(Bars, ratio(q), 13), (BadQ, {"q": ratio(q)}))
        for q in QS:
            self.assertEqual(Bars(ratio(q), 0).q.text(), q)

    def test_dimension(self):
        for dimension in (-1, 13, 100):
            self.assertEqual(failure(Bars, Ratio(2), dimension), (OutOfBounds, {"value": dimension}))
        for dimension in (0, 12):
            self.assertEqual(Bars(Ratio(2), dimension).dimension, dimension)


if __name__ == "__main__":
    unittest.main()
