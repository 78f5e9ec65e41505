"""Point 44: claims put together, and with them their certificates."""

import unittest

from fewcarry.books.book import Book
from fewcarry.certificates.certificate import Certificate
from fewcarry.certificates.claim import Claim
from fewcarry.certificates.judging import check, judge
from fewcarry.certificates.linking import (
    beside, beside_certificate, chained, chained_certificate, scaled_certificate, scaled_claim,
)
from fewcarry.exact.errors import BadFactor, BadLink, BadShape, TooMany, TwinLabel, Unfit
from fewcarry.exact.ratio import Ratio
from fewcarry.grids.squares import Squares
from fewcarry.thins.exactly import exact_few
from fewcarry.thins.fewest import Few, fewest
from fewcarry.thins.thinning import Thinning
from tests.support import failure, load, random_books, ratio, ratios, texts

ONE = Ratio(1)
A = Book.read("book 2\na 1: 1 0\nb 1/2: 0 1")
B = Book.read("book 2\nc 2: 1 0\nd 2: 0 1")
C = Book.read("book 2\ne 5: 1 0\nf 9: 0 1")
EMPTY = Book(2, [])


def renamed(book, letter):
    return Book(book.width, [load(letter + item.label, item.weight.text(), *item.numbers) for item in book])


def terms_of(squares):
    return [[coefficient.text(), *texts(row)] for coefficient, row in squares.terms]


def thinning_chains():
    """Pairs of claims, the second one about the few of the first one, that hold."""
    made = []
    for width in (1, 2, 3):
        for book in random_books(50 + width, 5, width, most_loads=10):
            thinning = Thinning(book, ratio("3/2"))
            first = Claim.of(Few(thinning.few, thinning.factor), book)
            made.append((first, Claim.of(fewest(thinning.few, Ratio(2)), thinning.few)))
            same = exact_few(book)
            made.append((Claim.of(Few(same, ONE), book), Claim(same, same, Ratio(0), Ratio(2))))
            made.append((first, Claim(Book(width, []), thinning.few, Ratio(0), Ratio(0))))
    return made


CHAINS = thinning_chains()


class Chained(unittest.TestCase):
    def test_claim(self):
        first, second = Claim(B, A, Ratio(2), Ratio(4)), Claim(C, B, ratio("5/2"), ratio("9/2"))
        claim = chained(first, second)
        self.assertIs(type(claim), Claim)
        self.assertEqual((claim.few, claim.whole, claim.low, claim.high), (C, A, Ratio(5), Ratio(18)))

    def test_certificate_by_definition(self):
        first, second = Claim(B, A, Ratio(1), Ratio(5)), Claim(C, B, Ratio(2), Ratio(5))
        one, two = judge(first), judge(second)
        self.assertEqual(terms_of(one.low_squares), [["1", "1", "0"], ["3/2", "0", "1"]])
        self.assertEqual(terms_of(one.high_squares), [["3", "1", "0"], ["1/2", "0", "1"]])
        self.assertEqual(terms_of(two.low_squares), [["1", "1", "0"], ["5", "0", "1"]])
        self.assertEqual(terms_of(two.high_squares), [["5", "1", "0"], ["1", "0", "1"]])
        got = chained_certificate(first, one, second, two)
        self.assertIs(type(got), Certificate)
        self.assertEqual(got.text(), "width 2\nlow\n1: 1 0\n5: 0 1\n2: 1 0\n3: 0 1\n"
                                     "high\n5: 1 0\n1: 0 1\n15: 1 0\n5/2: 0 1")

    def test_none_for_zero(self):
        first, second = Claim(B, A, Ratio(1), Ratio(5)), Claim(C, B, Ratio(0), Ratio(5))
        got = chained_certificate(first, judge(first), second, judge(second))
        self.assertEqual(terms_of(got.low_squares), [["5", "1", "0"], ["9", "0", "1"]])
        self.assertEqual(len(got.high_squares), 4)
        second = Claim(EMPTY, B, Ratio(0), Ratio(0))
        got = chained_certificate(first, judge(first), second, judge(second))
        self.assertEqual(got.text(), "width 2\nlow\nhigh")

    def test_certificates_fit(self):
        self.assertGreater(len(CHAINS), 30)
        for first, second in CHAINS:
            claim = chained(first, second)
            got = chained_certificate(first, judge(first), second, judge(second))
            self.assertIs(check(claim, got), True)
            judge(claim)

    def test_bad_link(self):
        first = Claim(B, A, Ratio(1), Ratio(5))
        good = judge(first)
        bad = Certificate(Squares(3, []), Squares(3, []))
        for whole in (A, C, EMPTY, renamed(B, "x"), Book(2, B.loads[::-1]), B.scaled(Ratio(2)), B.without("c"),
                      Book.read("book 2\nc 2: 1 0\nd 2: 0 -1")):
            second = Claim(C, whole, Ratio(0), Ratio(1))
            self.assertEqual(failure(chained, first, second), (BadLink, {}))
            self.assertEqual(failure(chained_certificate, first, good, second, bad), (BadLink, {}))
        wide = Claim(Book(3, []), Book(3, []), ONE, ONE)
        self.assertEqual(failure(chained, first, wide), (BadLink, {}))
        self.assertEqual(failure(chained, wide, first), (BadLink, {}))
        # Equal books need not be the same object.
        self.assertEqual(chained(first, Claim(C, Book(2, list(B)), Ratio(0), ONE)).whole, A)

    def test_unfit(self):
        first, second = Claim(B, A, Ratio(1), Ratio(5)), Claim(C, B, Ratio(2), Ratio(5))
        one, two = judge(first), judge(second)
        for wrong in (Certificate(one.high_squares, one.low_squares), Certificate(Squares(2, []), Squares(2, [])),
                      Certificate(Squares(1, []), Squares(1, []))):
            self.assertEqual(failure(chained_certificate, first, wrong, second, two), (Unfit, {}))
            self.assertEqual(failure(chained_certificate, first, one, second, wrong), (Unfit, {}))
        self.assertEqual(failure(chained_certificate, first, two, second, one), (Unfit, {}))


class Beside(unittest.TestCase):
    OTHER = Claim(renamed(C, "g"), renamed(B, "h"), Ratio(2), Ratio(5))

    def test_claim(self):
        first = Claim(B, A, Ratio(1), Ratio(9))
        claim = beside(first, Claim(C, Book.read("book 2\nz 1: 1 1"), Ratio(0), Ratio(7)))
        self.assertIs(type(claim), Claim)
        self.assertEqual((claim.few, claim.whole), (B + C, A + Book.read("book 2\nz 1: 1 1")))
        self.assertEqual((claim.low, claim.high), (Ratio(0), Ratio(9)))
        claim = beside(first, self.OTHER)
        self.assertEqual((claim.low, claim.high), (Ratio(1), Ratio(9)))
        claim = beside(self.OTHER, first)
        self.assertEqual((claim.low, claim.high), (Ratio(1), Ratio(9)))
        self.assertEqual(claim.few, self.OTHER.few + B)

    def test_certificate_by_definition(self):
        first = Claim(B, A, Ratio(1), Ratio(6))
        got = beside_certificate(first, judge(first), self.OTHER, judge(self.OTHER))
        self.assertIs(type(got), Certificate)
        # The second claim has 1 more below and lacks 1 above.
        self.assertEqual(terms_of(got.low_squares), [
            ["1", "1", "0"], ["3/2", "0", "1"], ["1", "1", "0"], ["5", "0", "1"], ["2", "1", "0"], ["2", "0", "1"]])
        self.assertEqual(terms_of(got.high_squares), [
            ["4", "1", "0"], ["1", "0", "1"], ["5", "1", "0"], ["1", "0", "1"], ["2", "1", "0"], ["2", "0", "1"]])
        # And now the first one.
        got = beside_certificate(self.OTHER, judge(self.OTHER), first, judge(first))
        self.assertEqual(terms_of(got.low_squares), [
            ["1", "1", "0"], ["5", "0", "1"], ["1", "1", "0"], ["3/2", "0", "1"], ["2", "1", "0"], ["2", "0", "1"]])
        first = Claim(B, A, ratio("3/2"), Ratio(4))
        got = beside_certificate(first, judge(first), self.OTHER, judge(self.OTHER))
        self.assertEqual(terms_of(got.low_squares)[-2:], [["1", "1", "0"], ["1", "0", "1"]])
        self.assertEqual(terms_of(got.high_squares)[-2:], [["1", "1", "0"], ["1/2", "0", "1"]])

    def test_equal_bounds_add_nothing(self):
        first = Claim(B, A, Ratio(2), Ratio(5))
        got = beside_certificate(first, judge(first), self.OTHER, judge(self.OTHER))
        self.assertEqual((len(got.low_squares), len(got.high_squares)), (3, 4))

    def test_loads_of_zeros_have_terms(self):
        zeros = Book.read("book 2\nz 3: 0 0\ny 1: 1 -2")
        first = Claim(EMPTY, EMPTY, ONE, ONE)
        second = Claim(zeros.scaled(Ratio(2)), zeros, Ratio(2), Ratio(2))
        got = beside_certificate(first, judge(first), second, judge(second))
        self.assertEqual(got.text(), "width 2\nlow\n3: 0 0\n1: 1 -2\nhigh")

    def test_certificates_fit(self):
        seen = 0
        for first, second in CHAINS:
            other = Claim(renamed(second.few, "x"), renamed(second.whole, "y"), second.low, second.high)
            for pair in ((first, other), (other, first)):
                claim = beside(*pair)
                got = beside_certificate(pair[0], judge(pair[0]), pair[1], judge(pair[1]))
                self.assertIs(check(claim, got), True)
                judge(claim)
                seen += 1
        self.assertGreater(seen, 60)

    def test_errors(self):
        first = Claim(B, A, Ratio(1), Ratio(5))
        unfit = Certificate(Squares(3, []), Squares(3, []))

        def both(wanted, second, given=first):
            self.assertEqual(failure(beside, given, second), wanted)
            self.assertEqual(failure(beside_certificate, given, unfit, second, unfit), wanted)

        both((BadShape, {}), Claim(Book(3, []), Book(3, []), ONE, ONE))
        both((TwinLabel, {"label": "d"}), Claim(Book.read("book 2\nd 1: 1 1"), A, ONE, ONE))
        both((TwinLabel, {"label": "b"}), Claim(C, Book.read("book 2\nb 1: 1 1"), ONE, ONE))
        many = Book(2, [load("m%d" % k, "1", 1, 1) for k in range(199)])
        both((TooMany, {"most": 200}), Claim(many, A, ONE, ONE))
        both((TooMany, {"most": 200}), Claim(C, many, ONE, ONE))
        # The few come first.
        both((TwinLabel, {"label": "c"}), Claim(B, many, ONE, ONE))
        fits = Claim(C, renamed(B, "h"), Ratio(2), Ratio(5))
        for one, two in ((unfit, judge(fits)), (judge(first), unfit), (judge(fits), judge(first))):
            self.assertEqual(failure(beside_certificate, first, one, fits, two), (Unfit, {}))


class Scaled(unittest.TestCase):
    def test_claim(self):
        first = Claim(B, A, Ratio(1), Ratio(5))
        claim = scaled_claim(first, ratio("3/7"))
        self.assertIs(type(claim), Claim)
        self.assertEqual((claim.few, claim.whole), (B.scaled(Ratio(3, 7)), A))
        self.assertEqual((claim.low, claim.high), (Ratio(3, 7), Ratio(15, 7)))

    def test_certificate(self):
        first = Claim(B, A, Ratio(1), Ratio(5))
        got = scaled_certificate(first, judge(first), Ratio(2, 3))
        self.assertIs(type(got), Certificate)
        self.assertEqual(got.text(), "width 2\nlow\n2/3: 1 0\n1: 0 1\nhigh\n2: 1 0\n1/3: 0 1")
        for first, second in CHAINS:
            for factor in ratios("1", "5/2", "1/9"):
                for claim in (first, second):
                    got = scaled_certificate(claim, judge(claim), factor)
                    self.assertIs(check(scaled_claim(claim, factor), got), True)

    def test_errors(self):
        first = Claim(B, A, Ratio(1), Ratio(5))
        unfit = Certificate(Squares(2, []), Squares(2, []))
        for factor in ratios("0", "-1", "-1/2"):
            self.assertEqual(failure(scaled_claim, first, factor), (BadFactor, {"factor": factor}))
            self.assertEqual(failure(scaled_certificate, first, unfit, factor), (BadFactor, {"factor": factor}))
        self.assertEqual(failure(scaled_certificate, first, unfit, ONE), (Unfit, {}))

    def test_arguments_stay(self):
        first = Claim(B, A, Ratio(1), Ratio(5))
        one = judge(first)
        text = one.text()
        scaled_certificate(first, one, Ratio(2))
        self.assertEqual((one.text(), first.few.text(), first.high), (text, B.text(), Ratio(5)))


if __name__ == "__main__":
    unittest.main()
