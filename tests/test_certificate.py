"""Points 42 and 43: certificates and their written form."""

import unittest

from fewcarry.certificates.certificate import Certificate
from fewcarry.exact.errors import BadCertificate, BadShape
from fewcarry.exact.ratio import Ratio
from fewcarry.grids.squares import Squares, squares_of
from tests.support import failure, random_grids, ratio, ratios


def squares(width, *terms):
    """Squares from texts such as "3/2: 1 0"."""
    made = []
    for text in terms:
        coefficient, row = text.split(":")
        made.append((ratio(coefficient), ratios(*row.split())))
    return Squares(width, made)


TEXT = "width 2\nlow\n3/2: 1 -1/4\n2: 0 1\nhigh\n1/7: 5 0"
MADE = Certificate(squares(2, "3/2: 1 -1/4", "2: 0 1"), squares(2, "1/7: 5 0"))
SAMPLES = [
    (TEXT, MADE),
    ("width 2\nlow\nhigh", Certificate(squares(2), squares(2))),
    ("width 0\nlow\nhigh", Certificate(squares(0), squares(0))),
    ("width 0\nlow\n3/4:\n1:\nhigh\n2:", Certificate(squares(0, "3/4:", "1:"), squares(0, "2:"))),
    ("width 1\nlow\nhigh\n1: 0\n1: 0", Certificate(squares(1), squares(1, "1: 0", "1: 0"))),
    ("width 64\nlow\n1:" + " 0" * 64 + "\nhigh", Certificate(squares(64, "1:" + " 0" * 64), squares(64))),
    ("width 3\nlow\n1/3: -2 -1/2 0\nhigh", Certificate(squares(3, "1/3: -2 -1/2 0"), squares(3))),
]


class Made(unittest.TestCase):
    def test_fields(self):
        low, high = squares(2, "1: 1 2"), squares(2)
        certificate = Certificate(low, high)
        self.assertIs(certificate.low_squares, low)
        self.assertIs(certificate.high_squares, high)

    def test_widths(self):
        for one, two in ((1, 2), (2, 1), (0, 64), (3, 0)):
            self.assertEqual(failure(Certificate, squares(one), squares(two)), (BadShape, {}))
        self.assertEqual(Certificate(squares(0), squares(0)).low_squares.width, 0)


class Equality(unittest.TestCase):
    def test_all_samples_differ(self):
        for k, (_, one) in enumerate(SAMPLES):
            for j, (_, two) in enumerate(SAMPLES):
                self.assertIs(one == two, k == j)
                self.assertIs(one != two, k != j)

    def test_written_forms_decide(self):
        self.assertTrue(MADE == Certificate.read(TEXT))
        for text in (TEXT.replace("3/2:", "3/4:"), TEXT.replace("-1/4", "1/4"), TEXT.replace("\n2: 0 1", ""),
                     TEXT.replace("1/7: 5 0", "1/7: 5 1"), TEXT.replace("1/7", "2/7"), TEXT + "\n1: 1 1",
                     "width 2\nlow\n2: 0 1\n3/2: 1 -1/4\nhigh\n1/7: 5 0",
                     "width 2\nlow\n1/7: 5 0\nhigh\n3/2: 1 -1/4\n2: 0 1"):
            self.assertFalse(MADE == Certificate.read(text))
        # The same worth, but not the same text.
        self.assertFalse(Certificate.read("width 1\nlow\n4: 1\nhigh") == Certificate.read("width 1\nlow\n1: 2\nhigh"))

    def test_other_objects(self):
        for other in (None, TEXT, MADE.low_squares, 1, (MADE.low_squares, MADE.high_squares)):
            self.assertFalse(MADE == other)


class Written(unittest.TestCase):
    def test_text(self):
        for text, certificate in SAMPLES:
            self.assertEqual(certificate.text(), text)

    def test_read(self):
        for text, certificate in SAMPLES:
            got = Certificate.read(text)
            self.assertIs(type(got), Certificate)
            self.assertIs(type(got.low_squares), Squares)
            self.assertTrue(got == certificate)
            self.assertEqual(got.text(), text)
            self.assertEqual((got.low_squares.width, len(got.low_squares), len(got.high_squares)),
                             (certificate.low_squares.width, len(certificate.low_squares),
                              len(certificate.high_squares)))

    def test_terms(self):
        got = Certificate.read(TEXT)
        self.assertEqual(got.low_squares.terms,
                         ((Ratio(3, 2), (Ratio(1), Ratio(-1, 4))), (Ratio(2), (Ratio(0), Ratio(1)))))
        self.assertEqual(got.high_squares.terms, ((Ratio(1, 7), (Ratio(5), Ratio(0))),))

    def test_squares_of_grids(self):
        grids = [grid.turned() * grid for grid in random_grids(3, 10, 3, 3)]
        for one, two in zip(grids, grids[1:]):
            certificate = Certificate(squares_of(one), squares_of(two))
            got = Certificate.read(certificate.text())
            self.assertTrue(got == certificate)
            self.assertEqual((got.low_squares.summed(), got.high_squares.summed()), (one, two))

    def test_long_numbers(self):
        digits = "9" * 2000
        text = f"width 1\nlow\n{digits}: {digits}\nhigh"
        self.assertEqual(Certificate.read(text).text(), text)
        for number in ("1" + "0" * 2000, "-" + "1" * 2000, "1/" + "3" * 1999):
            self.bad(f"width 1\nlow\n1: {number}\nhigh", 3)
        self.bad(f"width 1\nlow\n{digits}9: 1\nhigh", 3)

    def bad(self, text, line):
        self.assertEqual(failure(Certificate.read, text), (BadCertificate, {"line": line}), text)

    def test_width_line(self):
        for line in ("", " ", "width", "width ", "width  2", "width 02", "width -1", "width -0", "width 65", "width +2",
                     "width 2 ", " width 2", "Width 2", "width 2/1", "width 1 2", "width a", "width 100000000000",
                     "2", "low", "widths 2", "width\t2", "width " + "1" * 2001, "width 1_0"):
            self.bad(line + TEXT.removeprefix("width 2"), 1)
            self.bad(line, 1)
        self.bad("", 1)
        self.bad("\n", 1)
        self.bad("\n" + TEXT, 1)

    def test_low_line(self):
        for line in ("", "high", "Low", "low ", " low", "1: 1 2", "lo", "low:", "width 2"):
            self.bad(TEXT.replace("low", line, 1), 2)
        self.bad("width 2", 2)
        self.bad("width 2\n", 2)
        self.bad("width 2\nhigh", 2)

    def test_term_lines(self):
        for line in ("", " ", "3/2 1 2", "3/2:1 2", "3/2:  1 2", "3/2: 1  2", "3/2: 1 2 ", " 3/2: 1 2", "3/2 : 1 2",
                     "3/2: 1", "3/2: 1 2 3", "3/2:", "3/2: ", "0: 1 2", "-3/2: 1 2", "6/4: 1 2", "3/1: 1 2", "+1: 1 2",
                     "01: 1 2", ": 1 2", "3/2: 1 -0", "3/2: 1 02", "3/2: 1 2/2", "3/2: 1 2/4", "3/2: 1 a", "3/2: 1 2:",
                     "3/2:: 1 2", "3/2: 1: 2", "low", "width 2", "3/0: 1 2", "a: 1 2", "3/2: 1,2", "3/2: 1 +2",
                     "HIGH", "high ", " high", "hig"):
            self.bad(f"width 2\nlow\n{line}\nhigh", 3)
            self.bad(f"width 2\nlow\n1: 1 1\n{line}\nhigh", 4)
            self.bad(f"width 2\nlow\n1: 1 1\nhigh\n1: 2 2\n{line}", 6)
            self.bad(f"width 2\nlow\nhigh\n{line}\nhigh", 4)
            self.bad(f"width 2\nlow\n{line}", 3)

    def test_term_lines_of_width_0(self):
        for line in ("1", "1: ", "1: 0", "0:", "-1:", ":", "", "1::", "01:"):
            self.bad(f"width 0\nlow\n{line}\nhigh", 3)
            self.bad(f"width 0\nlow\nhigh\n{line}", 4)

    def test_high_line(self):
        # Where it is missing, the line behind the last one is wrong.
        self.bad("width 2\nlow", 3)
        self.bad("width 2\nlow\n1: 1 2", 4)
        self.bad("width 0\nlow\n1:\n1:\n1:", 6)
        self.bad("width 2\nlow\nhigh\nhigh", 4)
        self.bad("width 2\nlow\nhigh\nlow", 4)
        self.bad("width 2\nlow\nhigh\n1: 1 2\nhigh", 5)
        self.bad("width 2\nlow\nlow\nhigh", 3)

    def test_line_feeds(self):
        self.bad(TEXT + "\n", 7)
        self.bad("width 2\nlow\nhigh\n", 4)
        self.bad("width 2\n\nlow\nhigh", 2)
        self.bad("width 2\nlow\n\nhigh", 3)
        self.bad("width 2\nlow\n", 3)
        self.bad(TEXT.replace("\n", "\r\n"), 1)

    def test_first_wrong_line(self):
        self.bad("width 2\nlow\n1: 1\nhigh\n1: 1\nx", 3)
        self.bad("width 2\nlow\n1: 1 1\nhigh\n1: 1\nx", 5)
        self.bad("width 65\nlo", 1)
        self.bad("width 2\nlo\nx", 2)


if __name__ == "__main__":
    unittest.main()
