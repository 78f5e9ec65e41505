"""Ratios over their least common bottom."""

import unittest

from fewcarry.exact.bottoms import common_bottom, over_one_bottom
from tests.support import ratios


class Bottoms(unittest.TestCase):
    def test_known(self):
        self.assertEqual(common_bottom([]), 1)
        self.assertEqual(common_bottom(ratios("3", "-5")), 1)
        self.assertEqual(common_bottom(ratios("1/4", "5/6", "0")), 12)
        self.assertEqual(over_one_bottom(ratios("1/4", "-5/6", "0", "2")), ([3, -10, 0, 24], 12))
        self.assertEqual(over_one_bottom([]), ([], 1))


if __name__ == "__main__":
    unittest.main()
