"""Sets of places, which forests, volumes and corners are taken from."""

import unittest
from itertools import combinations
from math import comb

from fewcarry.exact.errors import TooHeavy
from fewcarry.grids.picking import all_sets
from tests.support import failure


class AllSets(unittest.TestCase):
    def test_by_definition(self):
        for many in range(9):
            for size in range(many + 1):
                self.assertEqual(all_sets(many, size), list(combinations(range(many), size)))

    def test_limit(self):
        for many, size in ((100, 2), (5000, 1), (16, 12), (200, 0), (200, 200)):
            self.assertEqual(len(all_sets(many, size)), comb(many, size))
        for many, size in ((101, 2), (5001, 1), (17, 12), (200, 12)):
            self.assertEqual(failure(all_sets, many, size), (TooHeavy, {"work": comb(many, size)}))


if __name__ == "__main__":
    unittest.main()
