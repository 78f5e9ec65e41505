"""Points 12 and 13: determinants, inverses, solutions and independent columns."""

import unittest
from fractions import Fraction

from fewcarry.exact.errors import BadPlace, BadShape, NoInverse
from fewcarry.exact.ratio import Ratio
from fewcarry.grids.grid import Grid
from fewcarry.grids.solving import determinant, independent_columns, inverse, mixture, rank, solution
from tests.support import determinant_of, entries, fraction, random_grids, texts, turned


def rank_of(rows):
    """The rank by plain elimination with Fractions."""
    rows = [list(row) for row in rows]
    found = 0
    for column in range(len(rows[0]) if rows else 0):
        places = [k for k in range(found, len(rows)) if rows[k][column]]
        if places:
            rows[found], rows[places[0]] = rows[places[0]], rows[found]
            for k in range(found + 1, len(rows)):
                times = rows[k][column] / rows[found][column]
                rows[k] = [x - times * y for x, y in zip(rows[k], rows[found])]
            found += 1
    return found


NOT_SQUARE = [Grid([[1, 2]]), Grid([[1], [2]]), Grid([[]]), Grid([[], []]), Grid([[0, 0], [0, 0], [0, 0]])]
SINGULAR = [Grid([[0]]), Grid([[1, 2], [2, 4]]), Grid([[1, 2, 3], [4, 5, 6], [7, 8, 9]], 5), Grid([[0, 1], [0, 2]]),
            Grid([[0, 0], [1, 2]])]


class Determinant(unittest.TestCase):
    def test_known(self):
        self.assertEqual(determinant(Grid([[1, 2], [3, 4]])).text(), "-2")
        self.assertEqual(determinant(Grid([[1, 2], [3, 4]], 3)).text(), "-2/9")
        self.assertEqual(determinant(Grid([[0, 1], [1, 0]])).text(), "-1")
        self.assertEqual(determinant(Grid([[0, 0, 1], [1, 0, 0], [0, 1, 0]])).text(), "1")
        self.assertEqual(determinant(Grid([[-5]], 2)).text(), "-5/2")

    def test_without_rows(self):
        self.assertIs(type(determinant(Grid([]))), Ratio)
        self.assertEqual(determinant(Grid([])), Ratio(1))

    def test_zero(self):
        for grid in SINGULAR:
            self.assertEqual(determinant(grid), Ratio(0))

    def test_not_square(self):
        for grid in NOT_SQUARE:
            with self.assertRaises(BadShape):
                determinant(grid)

    def test_against_expansion(self):
        for size in range(6):
            for grid in random_grids(size, 40, size, size, 2):
                self.assertEqual(fraction(determinant(grid)), determinant_of(entries(grid)))

    def test_of_units_and_exchanges(self):
        self.assertEqual(determinant(Grid.unit(64)), Ratio(1))
        self.assertEqual(determinant(Grid.unit(64).part([1, 0, *range(2, 64)], range(64))), Ratio(-1))


class Inverse(unittest.TestCase):
    def test_known(self):
        got = inverse(Grid([[1, 2], [3, 4]]))
        self.assertIs(type(got), Grid)
        self.assertEqual((got.rows, got.over), (((-4, 2), (3, -1)), 2))
        self.assertEqual(inverse(Grid([[2]], 3)), Grid([[3]], 2))
        self.assertEqual(inverse(Grid([[-2]], 3)), Grid([[-3]], 2))
        self.assertEqual(inverse(Grid([[0, 1], [1, 0]])), Grid([[0, 1], [1, 0]]))

    def test_without_rows(self):
        self.assertEqual(inverse(Grid([])), Grid([]))

    def test_product_on_either_side_is_the_unit(self):
        tried = 0
        for size in range(1, 6):
            for grid in random_grids(size + 10, 40, size, size, 3):
                if determinant_of(entries(grid)):
                    tried += 1
                    self.assertEqual(grid * inverse(grid), Grid.unit(size))
                    self.assertEqual(inverse(grid) * grid, Grid.unit(size))
                else:
                    with self.assertRaises(NoInverse):
                        inverse(grid)
        self.assertGreater(tried, 100)

    def test_greatest_size(self):
        grid = Grid([[1 if j <= i else 0 for j in range(64)] for i in range(64)], 3)
        self.assertEqual(grid * inverse(grid), Grid.unit(64))

    def test_errors(self):
        for grid in NOT_SQUARE:
            with self.assertRaises(BadShape):
                inverse(grid)
        for grid in SINGULAR:
            with self.assertRaises(NoInverse):
                inverse(grid)

    def test_grid_stays(self):
        grid = Grid([[0, 2], [3, 4]], 5)
        inverse(grid)
        self.assertEqual((grid.rows, grid.over), (((0, 2), (3, 4)), 5))


class Solution(unittest.TestCase):
    def test_known(self):
        got = solution(Grid([[1, 2], [3, 4]]), Grid([[5], [6]]))
        self.assertIs(type(got), Grid)
        self.assertEqual((got.rows, got.over), (((-8,), (9,)), 2))
        self.assertEqual(solution(Grid([[-2]], 3), Grid([[1, 5]], 7)), Grid([[-3, -15]], 14))

    def test_product_gives_the_right_side(self):
        for size in range(1, 5):
            rights = random_grids(size + 30, 40, size, 3)
            for grid, right in zip(random_grids(size + 20, 40, size, size), rights):
                if determinant_of(entries(grid)):
                    got = solution(grid, right)
                    self.assertEqual(grid * got, right)
                    self.assertEqual(got, inverse(grid) * right)

    def test_without_rows_or_columns(self):
        self.assertEqual(solution(Grid([]), Grid([])), Grid([]))
        self.assertEqual(solution(Grid([[1, 2], [3, 4]]), Grid([[], []])), Grid([[], []]))

    def test_greatest_width(self):
        right = Grid([[k for k in range(64)], [2 * k for k in range(64)]])
        self.assertEqual(solution(Grid([[2, 0], [0, 4]]), right), Grid([[k for k in range(64)]] * 2, 2))

    def test_shapes(self):
        square = Grid([[1, 2], [3, 4]])
        for right in (Grid([]), Grid([[1]]), Grid([[]]), Grid([[1], [2], [3]])):
            with self.assertRaises(BadShape):
                solution(square, right)
        for grid in NOT_SQUARE:
            with self.assertRaises(BadShape):
                solution(grid, Grid([[1]] * grid.height))
        with self.assertRaises(BadShape):
            solution(Grid([]), Grid([[1]]))

    def test_no_inverse(self):
        for grid in SINGULAR:
            for right in (Grid([[1]] * grid.height), Grid([[]] * grid.height)):
                with self.assertRaises(NoInverse):
                    solution(grid, right)

    def test_shape_is_checked_ahead_of_the_inverse(self):
        with self.assertRaises(BadShape):
            solution(Grid([[0, 0], [0, 0]]), Grid([[1]]))
        with self.assertRaises(BadShape):
            solution(Grid([[0, 0]]), Grid([[1]]))


class IndependentColumns(unittest.TestCase):
    def check(self, rows, wanted):
        got = independent_columns(Grid(rows, 3))
        self.assertIs(type(got), list)
        self.assertEqual(got, wanted)
        self.assertIs(type(rank(Grid(rows, 3))), int)
        self.assertEqual(rank(Grid(rows, 3)), len(wanted))

    def test_known(self):
        self.check([[1, 2], [3, 4]], [0, 1])
        self.check([[0, 2], [0, 4]], [1])
        self.check([[1, 2, 0], [2, 4, 1]], [0, 2])
        self.check([[1, 0, 1], [0, 1, 1]], [0, 1])
        self.check([[0, 0, 5]], [2])
        self.check([[0, 1, 1, 0], [0, 0, 0, 1], [0, 1, 1, 1]], [1, 3])
        self.check([[1], [2], [3]], [0])

    def test_zeros(self):
        self.check([[0]], [])
        self.check([[0, 0], [0, 0]], [])
        self.check([[0, 0, 1]], [2])

    def test_without_rows_or_columns(self):
        self.check([], [])
        self.check([[]], [])
        self.check([[], []], [])

    def test_against_ranks_of_the_columns_ahead(self):
        for height, width in ((2, 4), (4, 3), (3, 6), (5, 5)):
            for grid in random_grids(height * width, 60, height, width, 1):
                columns = turned(entries(grid))
                wanted = [k for k in range(width) if rank_of(columns[:k + 1]) > rank_of(columns[:k])]
                self.assertEqual(independent_columns(grid), wanted)
                self.assertEqual(rank(grid), len(wanted))

    def test_list_is_new(self):
        grid = Grid([[1, 0], [0, 1]])
        independent_columns(grid).append(7)
        self.assertEqual(independent_columns(grid), [0, 1])

    def test_greatest_size(self):
        grid = Grid([[i * j for j in range(64)] for i in range(64)])
        self.assertEqual(independent_columns(grid), [1])


class Mixture(unittest.TestCase):
    def test_known(self):
        grid = Grid([[1, 2, 0, 3], [2, 4, 1, 5]], 7)
        self.assertIs(type(mixture(grid, 0)), list)
        self.assertEqual(texts(mixture(grid, 0)), ["1", "0"])
        self.assertEqual(texts(mixture(grid, 1)), ["2", "0"])
        self.assertEqual(texts(mixture(grid, 2)), ["0", "1"])
        self.assertEqual(texts(mixture(grid, 3)), ["3", "-1"])

    def test_fractions(self):
        grid = Grid([[2, 0, 1], [0, -3, 1]], 5)
        self.assertEqual(texts(mixture(grid, 2)), ["1/2", "-1/3"])

    def test_columns_of_zeros(self):
        grid = Grid([[0, 1, 0], [0, 2, 0]])
        self.assertEqual(texts(mixture(grid, 0)), ["0"])
        self.assertEqual(texts(mixture(grid, 2)), ["0"])
        self.assertEqual(mixture(Grid([[0, 0]]), 1), [])

    def test_sum_is_the_column(self):
        for height, width in ((2, 4), (4, 3), (3, 6)):
            for grid in random_grids(height + width, 60, height, width, 2):
                places = independent_columns(grid)
                columns = turned(entries(grid))
                for column in range(width):
                    multiples = mixture(grid, column)
                    self.assertEqual(len(multiples), len(places))
                    total = [Fraction(0)] * height
                    for place, times in zip(places, multiples):
                        self.assertIs(type(times), Ratio)
                        total = [x + fraction(times) * y for x, y in zip(total, columns[place])]
                        if place > column:
                            self.assertEqual(times, Ratio(0))
                    self.assertEqual(total, columns[column])

    def test_no_such_column(self):
        for grid, column in ((Grid([[1, 2]]), 2), (Grid([[1, 2]]), -1), (Grid([[1, 2]]), 100), (Grid([]), 0),
                             (Grid([[]]), 0), (Grid([]), -1)):
            with self.assertRaises(BadPlace) as caught:
                mixture(grid, column)
            self.assertEqual(caught.exception.place, column)


if __name__ == "__main__":
    unittest.main()
