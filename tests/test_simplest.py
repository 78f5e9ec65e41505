"""Point 8: the simplest Ratio between two others."""

import unittest
from random import Random

from fewcarry.exact.errors import Crossed
from fewcarry.exact.ratio import Ratio
from fewcarry.exact.simplest import simplest
from tests.support import fraction, ratio


def slowly(low, high):
    """Try all bottoms in ascending order, and the tops from zero on."""
    x, y = fraction(low), fraction(high)
    bottom = 1
    while True:
        least, most = (x * bottom).__ceil__(), (y * bottom).__floor__()
        if least <= most:
            return Ratio(min(range(least, most + 1), key=abs), bottom)
        bottom += 1


class Simplest(unittest.TestCase):
    def check(self, low, high, wanted):
        got = simplest(ratio(low), ratio(high))
        self.assertIs(type(got), Ratio)
        self.assertEqual(got.text(), wanted)

    def test_examples_of_the_point(self):
        self.check("5/17", "3/8", "1/3")
        self.check("5/2", "17/4", "3")
        self.check("-1/2", "4", "0")

    def test_one_number_alone(self):
        for text in ("0", "3", "-3", "22/7", "-22/7", "1/1000", "-999/1000"):
            self.check(text, text, text)

    def test_across_and_at_zero(self):
        self.check("-5", "5", "0")
        self.check("0", "5", "0")
        self.check("-5", "0", "0")
        self.check("-1/1000", "1/1000", "0")

    def test_below_zero(self):
        self.check("-9/7", "-6/5", "-5/4")
        self.check("-3/8", "-5/17", "-1/3")
        self.check("-17/4", "-5/2", "-3")
        self.check("-4", "-2", "-2")

    def test_ends_belong_to_it(self):
        self.check("3", "7/2", "3")
        self.check("5/2", "3", "3")
        self.check("1/3", "2/5", "1/3")
        self.check("2/7", "1/3", "1/3")
        self.check("2", "4", "2")

    def test_least_bottom_comes_first(self):
        self.check("4/3", "100", "2")
        self.check("99/100", "101", "1")

    def test_against_a_slow_search(self):
        random = Random(8)
        for _ in range(3000):
            ends = [Ratio(random.randint(-60, 60), random.randint(1, 40)) for _ in range(2)]
            low, high = sorted(ends, key=fraction)
            self.assertEqual(simplest(low, high), slowly(low, high))

    def test_narrow_and_large(self):
        ends = [1, 1]
        while ends[-1] < 10 ** 1990:
            ends.append(ends[-1] + ends[-2])
        golden = Ratio(ends[-1], ends[-2])
        self.assertEqual(simplest(golden, golden), golden)
        self.assertEqual(simplest(-golden, -golden), -golden)
        self.assertEqual(simplest(golden, golden + Ratio(1, 10 ** 1999)).compare(golden) >= 0, True)

    def test_exchanged_ends(self):
        for low, high in (("1", "0"), ("1/3", "1/4"), ("0", "-1"), ("1", "-1"), ("-1/4", "-1/3")):
            with self.assertRaises(Crossed) as caught:
                simplest(ratio(low), ratio(high))
            self.assertEqual((caught.exception.low.text(), caught.exception.high.text()), (low, high))


if __name__ == "__main__":
    unittest.main()
