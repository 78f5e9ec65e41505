"""Whole numbers in texts, as the last sentence of point 7 tells of them."""

import unittest

from fewcarry.exact.errors import BadNumber
from fewcarry.exact.whole import read_whole
from tests.support import failure


class ReadWhole(unittest.TestCase):
    def test_written_forms(self):
        for number in (0, 1, 9, 10, -1, -10, 9999, 10 ** 1999, -10 ** 1999, 10 ** 2000 - 1):
            self.assertEqual(read_whole(str(number)), number)

    def test_other_texts(self):
        for text in ("", "-", "+1", "01", "-01", "-0", "00", " 1", "1 ", "1\n", "1/1", "1.0", "1_0", "--1", "x", "0x1",
                     "\u0661", "\u00b2", "1" + "0" * 2000, "-1" + "0" * 2000, "1" * 9000, "0" * 2000):
            self.assertEqual(failure(read_whole, text), (BadNumber, {"given": text}))


if __name__ == "__main__":
    unittest.main()
