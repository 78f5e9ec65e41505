"""Point 14: updates of an inverse, and NotSymmetric of point 15."""

import unittest
from random import Random

from fewcarry.exact.errors import BadShape, NoInverse, NotSymmetric
from fewcarry.exact.ratio import Ratio
from fewcarry.grids.grid import Grid
from fewcarry.grids.solving import determinant, inverse
from fewcarry.grids.updates import update_factor, updated_inverse
from tests.support import ratio

BOTH = (update_factor, updated_inverse)


def with_row(grid, row, weight):
    """The grid with weight * row[i] * row[j] added to each entry."""
    square = Grid([[x * y for y in row] for x in row])
    return grid + square.scaled(weight)


def symmetric_grids(seed, many, size):
    random = Random(seed)
    made = []
    while len(made) < many:
        rows = [[0] * size for _ in range(size)]
        for i in range(size):
            for j in range(i + 1):
                rows[i][j] = rows[j][i] = random.randint(-3, 3)
        grid = Grid(rows, random.randint(1, 4))
        if determinant(grid) != Ratio(0):
            made.append(grid)
    return made


class Updates(unittest.TestCase):
    def test_known(self):
        g = Grid([[1, 0], [0, 1]])
        factor = update_factor(g, [1, 2], Ratio(3))
        self.assertIs(type(factor), Ratio)
        self.assertEqual(factor.text(), "16")
        got = updated_inverse(g, [1, 2], Ratio(3))
        self.assertIs(type(got), Grid)
        self.assertEqual((got.rows, got.over), (((13, -6), (-6, 4)), 16))

    def test_against_the_inverse(self):
        random = Random(14)
        for size in range(1, 5):
            for grid in symmetric_grids(size, 40, size):
                g = inverse(grid)
                row = [random.randint(-2, 2) for _ in range(size)]
                weight = Ratio(random.randint(-4, 4), random.randint(5, 9))
                later = with_row(grid, row, weight)
                factor = update_factor(g, row, weight)
                self.assertEqual(factor, Ratio(1) + weight * g.form(row, row))
                self.assertEqual(determinant(later), determinant(grid) * factor)
                if factor != Ratio(0):
                    self.assertEqual(updated_inverse(g, row, weight), inverse(later))

    def test_no_inverse_exactly_if_the_factor_is_zero(self):
        tried = 0
        for size in range(1, 4):
            for grid in symmetric_grids(size + 10, 20, size):
                g = inverse(grid)
                row = [k + 1 for k in range(size)]
                worth = g.form(row, row)
                if worth == Ratio(0):
                    continue
                tried += 1
                weight = Ratio(-1).divided(worth)
                self.assertEqual(update_factor(g, row, weight), Ratio(0))
                self.assertEqual(determinant(with_row(grid, row, weight)), Ratio(0))
                with self.assertRaises(NoInverse):
                    updated_inverse(g, row, weight)
        self.assertGreater(tried, 30)

    def test_weight_zero_or_row_of_zeros(self):
        g = Grid([[2, 1], [1, 1]], 3)
        self.assertEqual(update_factor(g, [5, 7], Ratio(0)), Ratio(1))
        self.assertEqual(updated_inverse(g, [5, 7], Ratio(0)), g)
        self.assertEqual(update_factor(g, [0, 0], Ratio(9)), Ratio(1))
        self.assertEqual(updated_inverse(g, (0, 0), Ratio(9)), g)

    def test_weight_below_zero(self):
        g = inverse(Grid([[4, 0], [0, 1]]))
        self.assertEqual(update_factor(g, [1, 0], Ratio(-8)), Ratio(-1))
        self.assertEqual(updated_inverse(g, [1, 0], Ratio(-8)), Grid([[-1, 0], [0, 4]], 4))

    def test_without_rows(self):
        self.assertEqual(update_factor(Grid([]), [], Ratio(5)), Ratio(1))
        self.assertEqual(updated_inverse(Grid([]), [], Ratio(5)), Grid([]))

    def test_no_inverse_is_left(self):
        g = inverse(Grid([[4, 0], [0, 1]]))
        self.assertEqual(update_factor(g, [1, 0], Ratio(-4)), Ratio(0))
        with self.assertRaises(NoInverse):
            updated_inverse(g, [1, 0], Ratio(-4))
        with self.assertRaises(NoInverse):
            updated_inverse(g, [2, 0], Ratio(-1))
        with self.assertRaises(NoInverse):
            updated_inverse(Grid([[2]]), [1], ratio("-1/2"))

    def test_arguments_stay(self):
        g, row = Grid([[2, 1], [1, 1]], 3), [1, 2]
        for call in BOTH:
            call(g, row, Ratio(1, 2))
            self.assertEqual((g.rows, g.over, row), (((2, 1), (1, 1)), 3, [1, 2]))


class Errors(unittest.TestCase):
    def test_not_square(self):
        for g in (Grid([[1, 2]]), Grid([[1], [2]]), Grid([[]]), Grid([[1, 2], [3, 4], [5, 6]])):
            for row in ([1], [1, 2], [], [1, 2, 3]):
                for call in BOTH:
                    with self.assertRaises(BadShape):
                        call(g, row, Ratio(1))

    def not_symmetric(self, rows, row, place):
        for call in BOTH:
            with self.assertRaises(NotSymmetric) as caught:
                call(Grid(rows), row, Ratio(1))
            self.assertEqual((caught.exception.row, caught.exception.column), place)

    def test_not_symmetric(self):
        self.not_symmetric([[1, 2], [3, 4]], [1, 2], (0, 1))
        self.not_symmetric([[1, 2, 3], [2, 1, 5], [4, 6, 1]], [1, 2, 3], (0, 2))
        self.not_symmetric([[1, 2, 3], [2, 1, 5], [3, 6, 1]], [1, 2, 3], (1, 2))

    def test_not_symmetric_comes_ahead_of_the_row(self):
        self.not_symmetric([[1, 2], [3, 4]], [1], (0, 1))
        self.not_symmetric([[1, 2], [3, 4]], [1, 2, 3], (0, 1))

    def test_row_of_another_length(self):
        for row in ([], [1], [1, 2, 3]):
            for call in BOTH:
                with self.assertRaises(BadShape):
                    call(Grid([[1, 0], [0, 1]]), row, Ratio(1))
        for call in BOTH:
            with self.assertRaises(BadShape):
                call(Grid([]), [1], Ratio(1))

    def test_row_comes_ahead_of_the_inverse(self):
        with self.assertRaises(BadShape):
            updated_inverse(Grid([[2]]), [1, 1], ratio("-1/2"))


if __name__ == "__main__":
    unittest.main()
