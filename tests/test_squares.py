"""Points 15 and 16: grids that are nowhere below zero, and sums of squares."""

import unittest
from fractions import Fraction
from itertools import combinations
from random import Random

from fewcarry.exact.errors import BadShape, BadTerm, BelowZero, NotSymmetric, OutOfBounds
from fewcarry.exact.ratio import Ratio
from fewcarry.grids.grid import Grid
from fewcarry.grids.solving import rank
from fewcarry.grids.squares import Squares, squares_of
from tests.support import determinant_of, entries, failure, fraction, ratio, ratios, texts


def shown(squares):
    """The terms as pairs of a text and a list of texts."""
    return [(coefficient.text(), texts(row)) for coefficient, row in squares.terms]


def symmetric_grid(random, size, most=3):
    rows = [[0] * size for _ in range(size)]
    for i in range(size):
        for j in range(i + 1):
            rows[i][j] = rows[j][i] = random.randint(-most, most)
    return Grid(rows, random.randint(1, 4))


def grid_of_squares(random, size, many):
    """A symmetric grid that is nowhere below zero, of rank `many` at most."""
    rows = [[random.randint(-2, 2) for _ in range(size)] for _ in range(many)]
    weights = [random.randint(1, 5) for _ in rows]
    square = [[sum(w * row[i] * row[j] for w, row in zip(weights, rows)) for j in range(size)] for i in range(size)]
    return Grid(square, random.randint(1, 6))


def is_nowhere_below(grid):
    """By the minors: those of equal rows and columns are all at least zero."""
    rows = entries(grid)
    for many in range(1, grid.height + 1):
        for places in combinations(range(grid.height), many):
            if determinant_of([[rows[i][j] for j in places] for i in places]) < 0:
                return False
    return True


def terms_by_definition(grid):
    left = entries(grid)
    size = grid.height
    terms = []
    for k in range(size):
        if left[k][k] > 0:
            row = [number / left[k][k] for number in left[k]]
            terms.append((left[k][k], row))
            left = [[left[i][j] - terms[-1][0] * row[i] * row[j] for j in range(size)] for i in range(size)]
    return terms


class SquaresOf(unittest.TestCase):
    def test_known(self):
        squares = squares_of(Grid([[2, 1], [1, 2]]))
        self.assertIs(type(squares), Squares)
        self.assertEqual(shown(squares), [("2", ["1", "1/2"]), ("3/2", ["0", "1"])])
        self.assertEqual((squares.width, len(squares)), (2, 2))

    def test_kinds(self):
        squares = squares_of(Grid([[2, 1], [1, 2]], 3))
        self.assertIs(type(squares.terms), tuple)
        for term in squares.terms:
            self.assertIs(type(term), tuple)
            coefficient, row = term
            self.assertIs(type(coefficient), Ratio)
            self.assertIs(type(row), tuple)
            self.assertEqual([type(item) for item in row], [Ratio, Ratio])
        self.assertEqual(shown(squares), [("2/3", ["1", "1/2"]), ("1/2", ["0", "1"])])

    def test_place_without_a_term(self):
        grid = Grid([[0, 0, 0], [0, 4, 2], [0, 2, 3]])
        self.assertEqual(shown(squares_of(grid)), [("4", ["0", "1", "1/2"]), ("2", ["0", "0", "1"])])
        grid = Grid([[1, 2, 0], [2, 4, 0], [0, 0, 5]], 2)
        self.assertEqual(shown(squares_of(grid)), [("1/2", ["1", "2", "0"]), ("5/2", ["0", "0", "1"])])

    def test_zero_grids(self):
        for size in (1, 2, 5):
            squares = squares_of(Grid([[0] * size] * size))
            self.assertEqual((squares.width, squares.terms, len(squares)), (size, (), 0))
            self.assertEqual(squares.summed(), Grid([[0] * size] * size))

    def test_without_rows(self):
        squares = squares_of(Grid([]))
        self.assertEqual((squares.width, squares.terms), (0, ()))
        self.assertEqual(squares.summed(), Grid([]))

    def test_terms_by_definition(self):
        random = Random(16)
        for size in range(1, 6):
            for many in range(size + 2):
                for _ in range(8):
                    grid = grid_of_squares(random, size, many)
                    squares = squares_of(grid)
                    got = [(fraction(c), [fraction(item) for item in row]) for c, row in squares.terms]
                    self.assertEqual(got, terms_by_definition(grid))
                    self.assertEqual(squares.summed(), grid)
                    self.assertEqual(len(squares), rank(grid))
                    self.assertEqual(squares.width, size)

    def test_worth_is_the_sum(self):
        random = Random(160)
        for _ in range(40):
            grid = grid_of_squares(random, 3, 3)
            direction = [random.randint(-5, 5) for _ in range(3)]
            total = Fraction(0)
            for coefficient, row in squares_of(grid).terms:
                total += fraction(coefficient) * sum(fraction(x) * y for x, y in zip(row, direction)) ** 2
            self.assertEqual(fraction(grid.form(direction, direction)), total)

    def test_large_grid(self):
        size = 64
        grid = Grid([[size if i == j else 1 for j in range(size)] for i in range(size)])
        squares = squares_of(grid)
        self.assertEqual(len(squares), 64)
        self.assertEqual(squares.summed(), grid)

    def test_grid_stays(self):
        grid = Grid([[2, 1], [1, 2]], 3)
        squares_of(grid)
        self.assertEqual((grid.rows, grid.over), (((2, 1), (1, 2)), 3))


class BelowZeroErrors(unittest.TestCase):
    def below(self, grid):
        kind, fields = failure(squares_of, grid)
        self.assertIs(kind, BelowZero)
        direction = fields["direction"]
        self.assertIs(type(direction), tuple)
        self.assertEqual([type(number) for number in direction], [int] * grid.width)
        self.assertLess(grid.form(direction, direction).sign(), 0)

    def test_below_zero_at_once(self):
        self.below(Grid([[-1]]))
        self.below(Grid([[-1, 0], [0, 3]]))
        self.below(Grid([[1, 0], [0, -1]], 7))
        self.below(Grid([[-1, 0], [0, -1]]))

    def test_zero_beside_another_number(self):
        for other in (-5, -1, 0, 1, 40):
            for beside in (-3, -1, 1, 2):
                self.below(Grid([[0, beside], [beside, other]]))
                self.below(Grid([[other, beside], [beside, 0]], 3))
                self.below(Grid([[0, 0, beside], [0, 9, 4], [beside, 4, other]]))

    def test_after_some_squares(self):
        self.below(Grid([[1, 2], [2, 3]]))
        self.below(Grid([[4, 2, 6], [2, 1, 5], [6, 5, 90]]))
        self.below(Grid([[4, 2, 6], [2, 3, 5], [6, 5, 9]]))
        self.below(Grid([[1, 1, 1, 1], [1, 1, 1, 1], [1, 1, 3, 1], [1, 1, 1, 0]]))

    def test_exactly_those_that_are_below_zero(self):
        random = Random(15)
        seen = {True: 0, False: 0}
        for size in range(1, 5):
            for _ in range(150):
                grid = symmetric_grid(random, size)
                if random.random() < 0.6:
                    grid = grid + Grid.unit(size).scaled(Ratio(random.randint(1, 3)))
                fine = is_nowhere_below(grid)
                seen[fine] += 1
                if fine:
                    self.assertEqual(squares_of(grid).summed(), grid)
                else:
                    self.below(grid)
        self.assertGreater(min(seen.values()), 100)

    def test_just_below_zero(self):
        random = Random(151)
        tried = 0
        for _ in range(120):
            grid = grid_of_squares(random, 4, random.randint(0, 3))
            k = random.randrange(4)
            less = Grid([[1 if i == j == k else 0 for j in range(4)] for i in range(4)], 1000)
            grid = grid - less
            if not is_nowhere_below(grid):
                tried += 1
                self.below(grid)
        self.assertGreater(tried, 60)

    def test_errors_of_the_shape(self):
        for rows in ([[1, 2]], [[1], [2]], [[]], [[1, 2], [3, 4], [5, 6]], [[-1, 2]]):
            self.assertEqual(failure(squares_of, Grid(rows)), (BadShape, {}))
        self.assertEqual(failure(squares_of, Grid([[1, 2], [3, 4]])), (NotSymmetric, {"row": 0, "column": 1}))
        rows = [[-1, 2, 3], [2, -1, 5], [3, 6, 1]]
        self.assertEqual(failure(squares_of, Grid(rows)), (NotSymmetric, {"row": 1, "column": 2}))


class Squared(unittest.TestCase):
    def test_made_by_hand(self):
        squares = Squares(2, [(ratio("1/2"), ratios("1", "1/3")), (Ratio(3), ratios("-1", "2"))])
        self.assertEqual(squares.width, 2)
        self.assertEqual(shown(squares), [("1/2", ["1", "1/3"]), ("3", ["-1", "2"])])
        self.assertEqual(len(squares), 2)
        got = squares.summed()
        self.assertIs(type(got), Grid)
        self.assertEqual(entries(got), [[Fraction(7, 2), Fraction(-35, 6)],
                                        [Fraction(-35, 6), Fraction(217, 18)]])

    def test_pairs_and_rows_may_be_lists_or_tuples(self):
        one = Squares(1, [[Ratio(2), [Ratio(3)]]])
        two = Squares(1, ((Ratio(2), (Ratio(3),)),))
        self.assertEqual(one.terms, two.terms)
        self.assertIs(type(one.terms[0]), tuple)
        self.assertIs(type(one.terms[0][1]), tuple)

    def test_lists_are_copied(self):
        row = [Ratio(1), Ratio(2)]
        term = [Ratio(1), row]
        terms = [term]
        squares = Squares(2, terms)
        row[0] = Ratio(9)
        term[0] = Ratio(9)
        terms.append(term)
        self.assertEqual(shown(squares), [("1", ["1", "2"])])

    def test_rows_of_zeros_and_many_terms(self):
        squares = Squares(2, [(Ratio(1), ratios("0", "0"))])
        self.assertEqual((len(squares), squares.summed()), (1, Grid([[0, 0], [0, 0]])))
        squares = Squares(1, [(ratio("1/2"), [Ratio(1)])] * 100)
        self.assertEqual((len(squares), squares.summed()), (100, Grid([[50]])))

    def test_widths(self):
        self.assertEqual(Squares(0, []).summed(), Grid([]))
        self.assertEqual(Squares(0, [(Ratio(1), [])]).summed(), Grid([]))
        self.assertEqual(Squares(3, []).summed(), Grid([[0, 0, 0]] * 3))
        self.assertEqual(Squares(64, [(Ratio(2), [Ratio(0)] * 63 + [Ratio(1)])]).summed().rows[63][63], 2)
        for width in (-1, 65, 1000):
            self.assertEqual(failure(Squares, width, []), (OutOfBounds, {"value": width}))
            self.assertEqual(failure(Squares, width, [(Ratio(0), [])]), (OutOfBounds, {"value": width}))

    def test_coefficients_above_zero(self):
        good = (Ratio(1), [Ratio(1)])
        for coefficient in (Ratio(0), Ratio(-1), ratio("-1/9")):
            bad = (coefficient, [Ratio(1)])
            self.assertEqual(failure(Squares, 1, [bad]), (BadTerm, {"place": 0}))
            self.assertEqual(failure(Squares, 1, [good, good, bad, bad]), (BadTerm, {"place": 2}))

    def test_lengths_of_rows(self):
        for row in ([], ratios("1"), ratios("1", "2", "3")):
            self.assertEqual(failure(Squares, 2, [(Ratio(1), row)]), (BadShape, {}))
        self.assertEqual(failure(Squares, 0, [(Ratio(1), ratios("1"))]), (BadShape, {}))

    def test_order_of_the_errors(self):
        short = (Ratio(1), ratios("1"))
        bad = (Ratio(0), ratios("1", "2"))
        both = (Ratio(0), ratios("1"))
        self.assertEqual(failure(Squares, 2, [short, bad]), (BadShape, {}))
        self.assertEqual(failure(Squares, 2, [bad, short]), (BadTerm, {"place": 0}))
        self.assertEqual(failure(Squares, 2, [both]), (BadTerm, {"place": 0}))


if __name__ == "__main__":
    unittest.main()
