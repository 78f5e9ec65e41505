"""Point 17: grids compared in every direction."""

import unittest
from random import Random

from fewcarry.exact.errors import BadShape, BelowZero, NotSymmetric, OutOfBounds
from fewcarry.exact.ratio import Ratio
from fewcarry.grids.grid import Grid
from fewcarry.grids.order import at_most, is_above, least_factor
from tests.support import determinant_of, entries, failure, ratio
from tests.test_squares import grid_of_squares, is_nowhere_below, symmetric_grid

SLANTED = Grid([[1, 2], [3, 4]])
FLAT = Grid([[1, 2]])
BELOW = Grid([[-1, 0], [0, 1]])


class AtMost(unittest.TestCase):
    def test_known(self):
        self.assertIs(at_most(Grid([[1, 0], [0, 1]]), Grid([[2, 1], [1, 2]])), True)
        self.assertIs(at_most(Grid([[1, 0], [0, 1]]), Grid([[2, 1], [1, 1]])), False)
        self.assertIs(at_most(Grid([[1]], 2), Grid([[2]], 3)), True)
        self.assertIs(at_most(Grid([[2]], 3), Grid([[1]], 2)), False)

    def test_equal_and_zero(self):
        for grid in (Grid([]), Grid([[0]]), Grid([[-3, 1], [1, 2]], 5), BELOW):
            self.assertIs(at_most(grid, grid), True)
        self.assertIs(at_most(Grid([[0, 0], [0, 0]]), Grid([[1, 1], [1, 1]])), True)
        self.assertIs(at_most(Grid([[1, 1], [1, 1]]), Grid([[0, 0], [0, 0]])), False)

    def test_neither_is_at_most_the_other(self):
        a, b = Grid([[1, 0], [0, 2]]), Grid([[2, 0], [0, 1]])
        self.assertIs(at_most(a, b), False)
        self.assertIs(at_most(b, a), False)

    def test_against_the_minors(self):
        random = Random(17)
        seen = {True: 0, False: 0}
        for size in range(1, 4):
            for _ in range(120):
                a = symmetric_grid(random, size)
                b = a + grid_of_squares(random, size, size)
                if random.random() < 0.5:
                    b = b - Grid.unit(size).scaled(Ratio(1, random.randint(1, 9)))
                wanted = is_nowhere_below(b - a)
                seen[wanted] += 1
                self.assertIs(at_most(a, b), wanted)
        self.assertGreater(min(seen.values()), 50)

    def test_errors(self):
        unit = Grid.unit(2)
        self.assertEqual(failure(at_most, FLAT, SLANTED), (BadShape, {}))
        self.assertEqual(failure(at_most, SLANTED, FLAT), (NotSymmetric, {"row": 0, "column": 1}))
        self.assertEqual(failure(at_most, unit, FLAT), (BadShape, {}))
        self.assertEqual(failure(at_most, Grid([[1]]), SLANTED), (NotSymmetric, {"row": 0, "column": 1}))
        self.assertEqual(failure(at_most, unit, Grid([[1]])), (BadShape, {}))
        self.assertEqual(failure(at_most, Grid([]), Grid([[1]])), (BadShape, {}))


class IsAbove(unittest.TestCase):
    def test_known(self):
        self.assertIs(is_above(Grid([[2, 1], [1, 2]])), True)
        self.assertIs(is_above(Grid([[1, 1], [1, 1]])), False)
        self.assertIs(is_above(Grid([[1, 2], [2, 1]])), False)
        self.assertIs(is_above(Grid([[0, 1], [1, 0]])), False)
        self.assertIs(is_above(Grid([[0, 0], [0, 1]])), False)
        self.assertIs(is_above(Grid([[1]], 9)), True)
        self.assertIs(is_above(Grid([[0]])), False)
        self.assertIs(is_above(Grid([[-1]])), False)
        self.assertIs(is_above(Grid([])), True)

    def test_against_the_leading_minors(self):
        random = Random(171)
        seen = {True: 0, False: 0}
        for size in range(1, 5):
            for _ in range(100):
                grid = grid_of_squares(random, size, random.randint(size - 1, size + 1))
                if random.random() < 0.3:
                    grid = symmetric_grid(random, size)
                rows = entries(grid)
                wanted = all(determinant_of([row[:k] for row in rows[:k]]) > 0 for k in range(1, size + 1))
                seen[wanted] += 1
                self.assertIs(is_above(grid), wanted)
        self.assertGreater(min(seen.values()), 50)

    def test_errors(self):
        self.assertEqual(failure(is_above, FLAT), (BadShape, {}))
        self.assertEqual(failure(is_above, SLANTED), (NotSymmetric, {"row": 0, "column": 1}))


class LeastFactor(unittest.TestCase):
    def found(self, a, b, grain, most):
        got = least_factor(a, b, grain, most)
        if got is None:
            return None
        self.assertIs(type(got), Ratio)
        return got.text()

    def test_known(self):
        one, two, seven = Grid([[1]]), Grid([[2]]), Grid([[7]])
        self.assertEqual(self.found(seven, two, 1, 10), "4")
        self.assertEqual(self.found(seven, two, 2, 10), "7/2")
        self.assertEqual(self.found(seven, two, 3, 10), "11/3")
        self.assertEqual(self.found(one, one, 1000, 1000), "1")
        self.assertEqual(self.found(one, seven, 1000, 1), "143/1000")
        self.assertEqual(self.found(Grid([[1000]]), one, 1000, 1000), "1000")
        self.assertEqual(self.found(Grid([[999999]], 1000), one, 1000, 1000), "999999/1000")
        self.assertEqual(self.found(Grid([[0, 0], [0, 0]]), Grid.unit(2), 5, 5), "0")

    def test_none(self):
        one, two = Grid([[1]]), Grid([[2]])
        self.assertIsNone(least_factor(two, one, 7, 1))
        self.assertIsNone(least_factor(one, one, 7, 0))
        self.assertIsNone(least_factor(Grid([[1000001]], 1000), one, 1000, 1000))
        self.assertIsNone(least_factor(Grid([[1, 0], [0, 1]]), Grid([[1, 0], [0, 0]]), 1000, 1000))

    def test_zero_is_enough_for_what_is_not_above_zero(self):
        self.assertEqual(self.found(Grid([[-4]]), Grid([[1]]), 3, 9), "0")
        self.assertEqual(self.found(Grid([[-4]]), Grid([[0]]), 3, 0), "0")
        self.assertEqual(self.found(Grid([]), Grid([]), 1, 0), "0")

    def test_most_is_included(self):
        self.assertEqual(self.found(Grid([[3]]), Grid([[1]]), 4, 3), "3")
        self.assertIsNone(least_factor(Grid([[13]], 4), Grid([[1]]), 4, 3))

    def test_against_every_multiple(self):
        random = Random(172)
        kinds = {True: 0, False: 0}
        for size in (1, 2, 3):
            for _ in range(40):
                b = grid_of_squares(random, size, size)
                a = symmetric_grid(random, size, 9)
                grain, most = random.randint(1, 5), random.randint(0, 6)
                fits = [k for k in range(grain * most + 1) if at_most(a, b.scaled(Ratio(k, grain)))]
                wanted = Ratio(fits[0], grain).text() if fits else None
                kinds[wanted is None] += 1
                self.assertEqual(self.found(a, b, grain, most), wanted)
        self.assertGreater(min(kinds.values()), 20)

    def test_errors_in_order(self):
        unit, one = Grid.unit(2), Grid([[1]])
        slant = (NotSymmetric, {"row": 0, "column": 1})
        self.assertEqual(failure(least_factor, FLAT, SLANTED, 0, -1), (BadShape, {}))
        self.assertEqual(failure(least_factor, SLANTED, FLAT, 0, -1), slant)
        self.assertEqual(failure(least_factor, one, FLAT, 0, -1), (BadShape, {}))
        self.assertEqual(failure(least_factor, one, SLANTED, 0, -1), slant)
        kind, fields = failure(least_factor, one, BELOW, 0, -1)
        self.assertIs(kind, BelowZero)
        self.assertLess(BELOW.form(fields["direction"], fields["direction"]).sign(), 0)
        for grain in (0, -1, 1001):
            self.assertEqual(failure(least_factor, one, unit, grain, -1), (OutOfBounds, {"value": grain}))
        for most in (-1, 1001):
            self.assertEqual(failure(least_factor, one, unit, 1, most), (OutOfBounds, {"value": most}))
        self.assertEqual(failure(least_factor, one, unit, 1, 1), (BadShape, {}))
        self.assertEqual(failure(least_factor, unit, one, 1000, 1000), (BadShape, {}))

    def test_first_grid_may_be_below_zero(self):
        self.assertEqual(self.found(BELOW, Grid.unit(2), 2, 5), "1")
        self.assertEqual(self.found(Grid([[1]]), Grid([[4]], 3), 1000, 1), ratio("3/4").text())


if __name__ == "__main__":
    unittest.main()
