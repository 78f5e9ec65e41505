"""Point 9: spans."""

import unittest
from itertools import product

from fewcarry.exact.errors import Apart, Crossed, ZeroBottom
from fewcarry.exact.ratio import Ratio
from fewcarry.exact.span import Span
from tests.support import fraction, of_fraction, ratio, span

ENDS = [Ratio(n, 2) for n in (-6, -3, -1, 0, 1, 4)]
SPANS = [Span(low, high) for low in ENDS for high in ENDS if low.compare(high) <= 0]


def inner(a):
    """The ends of a span and some numbers between them, as fractions."""
    low, high = fraction(a.low), fraction(a.high)
    return [low, (2 * low + high) / 3, (low + high) / 2, (low + 3 * high) / 4, high]


class Making(unittest.TestCase):
    def test_fields(self):
        a = span("-1/2", "3")
        self.assertEqual((a.low.text(), a.high.text()), ("-1/2", "3"))
        self.assertIs(type(a.low), Ratio)

    def test_point(self):
        a = Span.point(ratio("2/3"))
        self.assertIs(type(a), Span)
        self.assertEqual((a.low.text(), a.high.text()), ("2/3", "2/3"))

    def test_crossed(self):
        for low, high in (("1", "0"), ("-1", "-2"), ("1/2", "1/3")):
            with self.assertRaises(Crossed) as caught:
                span(low, high)
            self.assertEqual((caught.exception.low.text(), caught.exception.high.text()), (low, high))


class Arithmetic(unittest.TestCase):
    def extremes(self, got, results):
        self.assertIs(type(got), Span)
        self.assertEqual((fraction(got.low), fraction(got.high)), (min(results), max(results)))

    def test_of_two_spans(self):
        for a, b in product(SPANS, SPANS):
            pairs = list(product(inner(a), inner(b)))
            self.extremes(a + b, [x + y for x, y in pairs])
            self.extremes(a - b, [x - y for x, y in pairs])
            self.extremes(a * b, [x * y for x, y in pairs])
            self.extremes(a.least(b), [min(x, y) for x, y in pairs])
            self.extremes(a.greatest(b), [max(x, y) for x, y in pairs])

    def test_divided(self):
        for a, b in product(SPANS, SPANS):
            if b.low.sign() <= 0 <= b.high.sign():
                with self.assertRaises(ZeroBottom):
                    a.divided(b)
            else:
                self.extremes(a.divided(b), [x / y for x, y in product(inner(a), inner(b))])

    def test_divided_with_zero_at_an_end(self):
        for b in (span("0", "1"), span("-1", "0"), span("-1", "1"), span("0", "0")):
            for a in (span("1", "2"), span("0", "0")):
                with self.assertRaises(ZeroBottom):
                    a.divided(b)

    def test_of_one_span(self):
        for a in SPANS:
            self.extremes(-a, [-x for x in inner(a)])
            self.assertIs(type(a.length()), Ratio)
            self.assertEqual(fraction(a.length()), fraction(a.high) - fraction(a.low))

    def test_known_products(self):
        self.assertEqual((span("-1", "2") * span("3", "4")).text(), "[-4, 8]")
        self.assertEqual((span("-1", "2") * span("-3", "4")).text(), "[-6, 8]")
        self.assertEqual((span("-2", "-1") * span("-4", "-3")).text(), "[3, 8]")
        self.assertEqual((span("-2", "-1") * span("3", "4")).text(), "[-8, -3]")
        self.assertEqual((span("-2", "3") * span("0", "0")).text(), "[0, 0]")
        self.assertEqual(span("3", "4").divided(span("2", "2")).text(), "[3/2, 2]")
        self.assertEqual(span("-3", "4").divided(span("-2", "-1")).text(), "[-4, 3]")

    def test_operands_stay(self):
        a, b = span("-1", "2"), span("1", "4")
        for _ in (a + b, a - b, a * b, -a, a & b, a.divided(b), a.least(b), a.greatest(b), a.at_most(b)):
            self.assertEqual((a.text(), b.text()), ("[-1, 2]", "[1, 4]"))


class Sets(unittest.TestCase):
    def test_common_part(self):
        for a, b in product(SPANS, SPANS):
            low = max(fraction(a.low), fraction(b.low))
            high = min(fraction(a.high), fraction(b.high))
            if low > high:
                with self.assertRaises(Apart):
                    a & b
            else:
                got = a & b
                self.assertIs(type(got), Span)
                self.assertEqual((fraction(got.low), fraction(got.high)), (low, high))

    def test_meeting_in_one_number(self):
        self.assertEqual((span("0", "1") & span("1", "2")).text(), "[1, 1]")
        self.assertEqual((span("1", "2") & span("0", "1")).text(), "[1, 1]")

    def test_apart(self):
        for a, b in ((span("0", "1"), span("1001/1000", "2")), (span("5", "6"), span("-6", "-5"))):
            with self.assertRaises(Apart):
                a & b
            with self.assertRaises(Apart):
                b & a

    def test_membership(self):
        for a in SPANS:
            for x in inner(a):
                self.assertIs(of_fraction(x) in a, True)
            self.assertIs(a.low - Ratio(1, 1000) in a, False)
            self.assertIs(a.high + Ratio(1, 1000) in a, False)
            self.assertIs(a.high + Ratio(1, 1000) not in a, True)


class Order(unittest.TestCase):
    def test_three_answers(self):
        a, b = span("-1", "2"), span("3", "4")
        self.assertIs(a.at_most(b), True)
        self.assertIs(b.at_most(a), False)
        self.assertIs(a.at_most(a), None)

    def test_touching(self):
        a, b = span("0", "1"), span("1", "2")
        self.assertIs(a.at_most(b), True)
        self.assertIs(b.at_most(a), None)
        one = Span.point(Ratio(1))
        self.assertIs(one.at_most(one), True)
        self.assertIs(one.at_most(a), None)
        self.assertIs(a.at_most(one), True)

    def test_against_pairs(self):
        for a, b in product(SPANS, SPANS):
            answers = {x <= y for x, y in product(inner(a), inner(b))}
            self.assertIs(a.at_most(b), answers.pop() if len(answers) == 1 else None)


class Equality(unittest.TestCase):
    def test_equal_fields(self):
        self.assertIs(span("1/2", "3") == Span(Ratio(2, 4), Ratio(6, 2)), True)
        self.assertIs(span("1/2", "3") == span("1/2", "4"), False)
        self.assertIs(span("1/2", "3") == span("0", "3"), False)
        self.assertIs(span("1/2", "3") != span("0", "3"), True)

    def test_nothing_else_is_equal(self):
        a = Span.point(Ratio(1))
        for other in (Ratio(1), 1, "[1, 1]", (Ratio(1), Ratio(1)), [Ratio(1), Ratio(1)], None):
            self.assertIs(a == other, False)
            self.assertIs(other == a, False)


class WrittenForm(unittest.TestCase):
    def test_text(self):
        self.assertEqual(span("1/2", "3").text(), "[1/2, 3]")
        self.assertEqual(span("-7/3", "-1/4").text(), "[-7/3, -1/4]")
        self.assertEqual(Span.point(Ratio(0)).text(), "[0, 0]")


if __name__ == "__main__":
    unittest.main()
