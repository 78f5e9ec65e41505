"""Points 6 and 7: Ratio and its written form."""

import unittest
from fractions import Fraction

from fewcarry.exact.errors import BadNumber, OutOfBounds, ZeroBottom
from fewcarry.exact.ratio import Ratio
from tests.support import fraction, ratio

SMALL = [Ratio(top, bottom) for top in range(-6, 7) for bottom in (1, 2, 3, 6, 7)]


class Fields(unittest.TestCase):
    def fields(self, made):
        self.assertIs(type(made), Ratio)
        return (made.top, made.bottom)

    def test_lowest_terms(self):
        self.assertEqual(self.fields(Ratio(6, 8)), (3, 4))
        self.assertEqual(self.fields(Ratio(6, -8)), (-3, 4))
        self.assertEqual(self.fields(Ratio(-6, 8)), (-3, 4))
        self.assertEqual(self.fields(Ratio(-6, -8)), (3, 4))
        self.assertEqual(self.fields(Ratio(8, 4)), (2, 1))
        self.assertEqual(self.fields(Ratio(5)), (5, 1))
        self.assertEqual(self.fields(Ratio(top=1, bottom=2)), (1, 2))

    def test_zero(self):
        for bottom in (1, 7, -7, 10 ** 1999):
            self.assertEqual(self.fields(Ratio(0, bottom)), (0, 1))

    def test_zero_bottom(self):
        for top in (0, 1, -5):
            with self.assertRaises(ZeroBottom):
                Ratio(top, 0)

    def test_large_numbers(self):
        big = 10 ** 1999
        self.assertEqual(self.fields(Ratio(6 * big, 4 * big)), (3, 2))
        self.assertEqual(self.fields(Ratio(big + 1, big)), (big + 1, big))


class Arithmetic(unittest.TestCase):
    def test_against_fractions(self):
        for a in SMALL:
            for b in SMALL:
                x, y = fraction(a), fraction(b)
                results = [(a + b, x + y), (a - b, x - y), (a * b, x * y)]
                if y:
                    results.append((a.divided(b), x / y))
                for got, wanted in results:
                    self.assertIs(type(got), Ratio)
                    self.assertEqual((got.top, got.bottom), (wanted.numerator, wanted.denominator))
                self.assertEqual(a.compare(b), (x > y) - (x < y))
                self.assertEqual(a == b, x == y)
                self.assertEqual(a != b, x != y)

    def test_of_one_ratio(self):
        for a in SMALL:
            x = fraction(a)
            self.assertEqual(fraction(-a), -x)
            self.assertEqual(fraction(abs(a)), abs(x))
            self.assertEqual(a.sign(), (x > 0) - (x < 0))
            self.assertEqual(a.rounded_down(), x.__floor__())
            self.assertEqual(a.rounded_up(), x.__ceil__())
            for got in (a.sign(), a.compare(Ratio(1)), a.rounded_down(), a.rounded_up()):
                self.assertIs(type(got), int)
            self.assertIs(type(-a), Ratio)
            self.assertIs(type(abs(a)), Ratio)

    def test_operands_stay(self):
        a, b = Ratio(-1, 2), Ratio(2, 3)
        for _ in (a + b, a - b, a * b, -a, abs(a), a ** 3, a.divided(b), a.compare(b)):
            self.assertEqual([a.top, a.bottom, b.top, b.bottom], [-1, 2, 2, 3])

    def test_divided_by_zero(self):
        for a in (Ratio(0), Ratio(1, 3), Ratio(-2)):
            with self.assertRaises(ZeroBottom):
                a.divided(Ratio(0))

    def test_divided_by_a_negative(self):
        self.assertEqual(Ratio(1, 2).divided(Ratio(-3, 4)).text(), "-2/3")
        self.assertEqual(Ratio(0).divided(Ratio(-3, 4)).text(), "0")

    def test_rounding(self):
        wanted = {"-7/2": (-4, -3), "7/2": (3, 4), "-3": (-3, -3), "3": (3, 3), "0": (0, 0),
                  "-1/3": (-1, 0), "1/3": (0, 1)}
        for text, pair in wanted.items():
            self.assertEqual((ratio(text).rounded_down(), ratio(text).rounded_up()), pair)

    def test_close_numbers_compare(self):
        big = 10 ** 1999
        self.assertEqual(Ratio(big, big + 1).compare(Ratio(big - 1, big)), 1)
        self.assertEqual(Ratio(big - 1, big).compare(Ratio(big, big + 1)), -1)


class Powers(unittest.TestCase):
    def test_small(self):
        for a in (Ratio(-2, 3), Ratio(0), Ratio(5), Ratio(1, 2)):
            for n in (0, 1, 2, 3, 10, 63, 64):
                wanted = Fraction(a.top, a.bottom) ** n
                for got in (a.raised(n), a ** n):
                    self.assertIs(type(got), Ratio)
                    self.assertEqual((got.top, got.bottom), (wanted.numerator, wanted.denominator))

    def test_zeroth_power_is_one(self):
        self.assertEqual(Ratio(0).raised(0), Ratio(1))
        self.assertEqual(Ratio(-7, 3) ** 0, Ratio(1))

    def test_refused_exponents(self):
        for n in (-1, 65, -64, 1000, -10 ** 30):
            with self.assertRaises(OutOfBounds) as caught:
                Ratio(2, 3).raised(n)
            self.assertEqual(caught.exception.value, n)
            with self.assertRaises(OutOfBounds) as caught:
                Ratio(2, 3) ** n
            self.assertEqual(caught.exception.value, n)

    def test_zero_is_refused_likewise(self):
        with self.assertRaises(OutOfBounds):
            Ratio(0).raised(-1)


class Equality(unittest.TestCase):
    def test_equal_fields(self):
        self.assertIs(Ratio(2, 4) == Ratio(-1, -2), True)
        self.assertIs(Ratio(1, 2) == Ratio(1, 3), False)
        self.assertIs(Ratio(1, 2) == Ratio(3, 2), False)
        self.assertIs(Ratio(1, 2) != Ratio(2, 4), False)

    def test_nothing_else_is_equal(self):
        class Lookalike:
            top = 1
            bottom = 1

        for other in (1, "1", (1, 1), [1, 1], None, Fraction(1), 1.0, Lookalike()):
            self.assertIs(Ratio(1) == other, False)
            self.assertIs(other == Ratio(1), False)
            self.assertIs(Ratio(1) != other, True)


class WrittenForm(unittest.TestCase):
    def test_text(self):
        self.assertEqual(Ratio(6, -8).text(), "-3/4")
        self.assertEqual(Ratio(3, 4).text(), "3/4")
        self.assertEqual(Ratio(-5).text(), "-5")
        self.assertEqual(Ratio(5).text(), "5")
        self.assertEqual(Ratio(0, -9).text(), "0")

    def test_round_trip(self):
        for a in SMALL:
            self.assertEqual(Ratio.read(a.text()), a)
        for text in ("0", "7", "-7", "10", "1/10", "-12/35", "100/99"):
            read = Ratio.read(text)
            self.assertIs(type(read), Ratio)
            self.assertEqual(read.text(), text)

    def refuse(self, text):
        with self.assertRaises(BadNumber) as caught:
            Ratio.read(text)
        self.assertEqual(caught.exception.given, text)

    def test_named_texts_are_refused(self):
        for text in ("", "+3", "03", "-0", "6/4", "3/1", "1/ 2"):
            with self.subTest(text):
                self.refuse(text)

    def test_other_texts_are_refused(self):
        for text in ("-", "/", "1/", "/2", "-/2", "1/0", "0/1", "0/5", "-0/5", "1/00", "00", "-01", "1/02",
                     "01/2", "1/-2", "-1/-2", "1/+2", "+1/2", "--1", "-+1", "1-", "1/2-", "- 1", " 1", "1 ",
                     "1 /2", " 1/2", "1/2 ", "1\n", "\n1", "1\n/2", "1/\n2", "1/2\n", "\n", " ", "1/2/3",
                     "1//2", "1.5", "1e3", "1_0", "1,0", "0x1", "a", "1a", "half", "-2/4", "2/2", "-3/1",
                     "1/1", "-1/1", "(1)", "1 2", "\u0663", "\u00b2", "1/\u00b2"):
            with self.subTest(text):
                self.refuse(text)

    def test_longest_texts(self):
        self.assertEqual(Ratio.read("1" * 2000).top, int("1" * 2000))
        self.assertEqual(Ratio.read("-" + "1" * 1999).top, -int("1" * 1999))
        text = "1/" + "3" * 1998
        self.assertEqual(Ratio.read(text).bottom, int("3" * 1998))
        self.assertEqual(Ratio.read(text).text(), text)
        for text in ("1" * 2001, "-" + "1" * 2000, "1/" + "3" * 1999, "0" * 2001, "x" * 2001, "1" * 10000):
            self.refuse(text)


if __name__ == "__main__":
    unittest.main()
