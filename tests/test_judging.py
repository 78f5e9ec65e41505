"""Points 41 and 42: claims judged and certificates checked."""

import unittest

from fewcarry.books.book import Book
from fewcarry.certificates.certificate import Certificate
from fewcarry.certificates.claim import Claim
from fewcarry.certificates.judging import check, judge
from fewcarry.exact.errors import NotCarried
from fewcarry.exact.ratio import Ratio
from fewcarry.grids.squares import Squares, squares_of
from fewcarry.thins.fewest import Few
from fewcarry.thins.thinning import Thinning
from tests import plain
from tests.support import energy_of, entries, failure, fraction, random_books, ratio, ratios

ONE = Ratio(1)


def some_claims():
    """Claims of which some hold, some fail below, some fail above, and some do both."""
    made = []
    for width in (1, 2, 3):
        books = random_books(40 + width, 12, width)
        for book, other in zip(books, books[1:]):
            made.append(Claim(book.scaled(Ratio(3)) if len(book) else book, book, Ratio(1, 2), Ratio(7, 2)))
            made.append(Claim(book, book, ratio("11/10"), Ratio(2)))
            made.append(Claim(book, book, Ratio(0), ratio("9/10")))
            made.append(Claim(book, other, Ratio(1, 5), Ratio(5)))
            made.append(Claim(book, other, Ratio(0), Ratio(30)))
            made.append(Claim(book, other, ratio("9/10"), ratio("11/10")))
    return made


CLAIMS = some_claims()


def holds(claim):
    return plain.is_nowhere_below_zero(entries(claim.low_grid())) and holds_above(claim)


def holds_above(claim):
    return plain.is_nowhere_below_zero(entries(claim.high_grid()))


class Judge(unittest.TestCase):
    def test_by_definition(self):
        seen = {"fits": 0, "low": 0, "high": 0, "both": 0}
        for claim in CLAIMS:
            if holds(claim):
                certificate = judge(claim)
                self.assertIs(type(certificate), Certificate)
                self.assertIs(check(claim, certificate), True)
                self.assertEqual(certificate.text(), Certificate(
                    squares_of(claim.low_grid()), squares_of(claim.high_grid())).text())
                seen["fits"] += 1
                continue
            error, fields = failure(judge, claim)
            self.assertEqual((error, sorted(fields)), (NotCarried, ["direction", "side"]))
            side, direction = fields["side"], fields["direction"]
            below = not plain.is_nowhere_below_zero(entries(claim.low_grid()))
            self.assertEqual(side, "low" if below else "high")
            self.assertIs(type(direction), tuple)
            self.assertEqual({type(number) for number in direction}, {int})
            few, whole = energy_of(claim.few, direction), energy_of(claim.whole, direction)
            self.assertLess(few - fraction(claim.low) * whole if below else fraction(claim.high) * whole - few, 0)
            seen["both" if below and not holds_above(claim) else side] += 1
        self.assertGreater(min(seen.values()), 3, seen)

    def test_thinnings(self):
        for book in random_books(4, 8, 3):
            for q in ratios("3/2", "2"):
                thinning = Thinning(book, q)
                claim = Claim.of(Few(thinning.few, thinning.factor), book)
                self.assertIs(check(claim, judge(claim)), True)

    def test_without_energy(self):
        empty, zeros = Book(2, []), Book.read("book 2\na 1: 0 0")
        axis = Book.read("book 2\na 1: 0 3")
        for few in (empty, zeros):
            for whole in (empty, zeros):
                claim = Claim(few, whole, Ratio(3), Ratio(4))
                certificate = judge(claim)
                self.assertEqual(certificate.text(), "width 2\nlow\nhigh")
                self.assertIs(check(claim, certificate), True)
            self.assertEqual(failure(judge, Claim(few, axis, ONE, Ratio(2)))[1]["side"], "low")
            self.assertEqual(judge(Claim(few, axis, Ratio(0), Ratio(2))).text(), "width 2\nlow\nhigh\n18: 0 1")
            self.assertEqual(failure(judge, Claim(axis, few, ONE, Ratio(2)))[1]["side"], "high")

    def test_exactly(self):
        for book in random_books(6, 6, 2):
            certificate = judge(Claim(book, book, ONE, ONE))
            self.assertEqual(certificate.text(), "width 2\nlow\nhigh")
        book = Book.read("book 2\na 1: 1 1\nb 1: 1 -1")
        other = Book.read("book 2\nx 2: 0 1\ny 2: 1 0")
        self.assertEqual(judge(Claim(book, other, ONE, ONE)).text(), "width 2\nlow\nhigh")
        for low, high, side in (("1000001/1000000", "2", "low"), ("1/2", "999999/1000000", "high")):
            self.assertEqual(failure(judge, Claim(book, other, ratio(low), ratio(high)))[1]["side"], side)

    def test_low_of_0(self):
        book = Book.read("book 2\na 1: 1 1\nb 1/2: 0 2")
        certificate = judge(Claim(book, book, Ratio(0), ONE))
        self.assertEqual(certificate.text(), "width 2\nlow\n1: 1 1\n2: 0 1\nhigh")
        certificate = judge(Claim(Book(2, []), book, Ratio(0), Ratio(0)))
        self.assertEqual(certificate.text(), "width 2\nlow\nhigh")


def squares(width, *terms):
    return Squares(width, [(ratio(coefficient), ratios(*row.split())) for coefficient, row in terms])


class Check(unittest.TestCase):
    BOOK = Book.read("book 2\na 2: 1 0\nb 3: 1 1")
    CLAIM = Claim(BOOK, BOOK, Ratio(0), Ratio(2))

    def test_other_squares_that_fit(self):
        # Not those of squares_of, but the loads themselves, in any order and parts.
        low = squares(2, ("3", "1 1"), ("2", "1 0"))
        high = squares(2, ("1", "1 0"), ("1", "-1 0"), ("1/3", "3 3"))
        self.assertIs(check(self.CLAIM, Certificate(low, high)), True)
        low = squares(2, ("12", "1/2 1/2"), ("2", "1 0"))
        self.assertIs(check(self.CLAIM, Certificate(low, low)), True)

    def test_what_does_not_fit(self):
        good = squares(2, ("3", "1 1"), ("2", "1 0"))
        for terms in ((), (("3", "1 1"),), (("3", "1 1"), ("1", "1 0")),
                      (("3", "1 1"), ("2", "1 0"), ("1/1000", "0 1")),
                      (("3", "1 -1"), ("2", "1 0")), (("3", "1 1"), ("2", "0 1")),
                      (("3", "1 1"), ("2", "1 0"), ("1", "1 1"))):
            wrong = squares(2, *terms)
            self.assertIs(check(self.CLAIM, Certificate(wrong, good)), False)
            self.assertIs(check(self.CLAIM, Certificate(good, wrong)), False)
            self.assertIs(check(self.CLAIM, Certificate(wrong, wrong)), False)
        self.assertIs(check(self.CLAIM, Certificate(good, good)), True)

    def test_other_widths(self):
        for width in (0, 1, 3, 64):
            empty = squares(width)
            self.assertIs(check(self.CLAIM, Certificate(empty, empty)), False)
            none = Claim(Book(2, []), Book(2, []), ONE, ONE)
            self.assertIs(check(none, Certificate(empty, empty)), False)
        self.assertIs(check(Claim(Book(2, []), Book(2, []), ONE, ONE), Certificate(squares(2), squares(2))), True)
        wide = squares(3, ("3", "1 1 0"), ("2", "1 0 0"))
        self.assertIs(check(self.CLAIM, Certificate(wide, wide)), False)

    def test_sides_are_not_exchanged(self):
        claim = Claim(self.BOOK, self.BOOK, Ratio(1, 2), Ratio(3))
        certificate = judge(claim)
        self.assertIs(check(claim, Certificate(certificate.high_squares, certificate.low_squares)), False)

    def test_claims_that_do_not_hold(self):
        for claim in CLAIMS:
            if not holds(claim):
                for grid in (claim.low_grid(), claim.high_grid()):
                    if plain.is_nowhere_below_zero(entries(grid)):
                        fit = squares_of(grid)
                        self.assertIs(check(claim, Certificate(fit, fit)), False)

    def test_terms_without_worth(self):
        zeros = squares(2, ("3", "0 0"))
        self.assertIs(check(Claim(Book(2, []), Book(2, []), ONE, ONE), Certificate(zeros, zeros)), True)


if __name__ == "__main__":
    unittest.main()
