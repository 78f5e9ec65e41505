"""Points 10 and 11: grids."""

import unittest
from fractions import Fraction

from fewcarry.exact.errors import BadPlace, BadShape, OutOfBounds
from fewcarry.exact.ratio import Ratio
from fewcarry.grids.grid import Grid
from tests.support import entries, fraction, product_of, random_grids, ratio, ratios, turned


def empties(many):
    return [[] for _ in range(many)]


class Case(unittest.TestCase):
    def fields(self, grid, rows, over, height, width):
        self.assertIs(type(grid), Grid)
        self.assertEqual((grid.rows, grid.over, grid.height, grid.width), (rows, over, height, width))
        self.assertIs(type(grid.rows), tuple)
        for row in grid.rows:
            self.assertIs(type(row), tuple)


class Making(Case):
    def test_fields(self):
        self.fields(Grid([[1, 2, 3], [4, 5, 7]]), ((1, 2, 3), (4, 5, 7)), 1, 2, 3)
        self.fields(Grid([[1, -2], [3, 4]], 5), ((1, -2), (3, 4)), 5, 2, 2)
        self.fields(Grid(rows=[[1]], over=2), ((1,),), 2, 1, 1)

    def test_tuples_will_do(self):
        self.assertEqual(Grid(((1, 2), (3, 4)), 2), Grid([[1, 2], [3, 4]], 2))
        self.assertEqual(Grid(([1, 2], (3, 4)), 2), Grid([(1, 2), [3, 4]], 2))

    def test_lowest_terms(self):
        self.fields(Grid([[2, 4], [-6, 8]], 6), ((1, 2), (-3, 4)), 3, 2, 2)
        self.fields(Grid([[2, 4], [-6, 9]], 6), ((2, 4), (-6, 9)), 6, 2, 2)
        self.fields(Grid([[0, 4], [0, -8]], 12), ((0, 1), (0, -2)), 3, 2, 2)
        self.fields(Grid([[-4]], 2), ((-2,),), 1, 1, 1)
        self.fields(Grid([[6, 9]], 1), ((6, 9),), 1, 1, 2)

    def test_all_zero(self):
        self.fields(Grid([[0, 0], [0, 0]], 12), ((0, 0), (0, 0)), 1, 2, 2)
        self.fields(Grid([], 12), (), 1, 0, 0)
        self.fields(Grid(empties(2), 12), ((), ()), 1, 2, 0)

    def test_no_rows_and_no_columns(self):
        self.fields(Grid([]), (), 1, 0, 0)
        self.fields(Grid(()), (), 1, 0, 0)
        self.fields(Grid(empties(1)), ((),), 1, 1, 0)
        self.fields(Grid(empties(64)), ((),) * 64, 1, 64, 0)

    def test_greatest_sizes(self):
        full = [[i + j for j in range(64)] for i in range(64)]
        self.assertEqual((Grid(full).height, Grid(full).width), (64, 64))
        for rows in (full + [[0] * 64], [[0] * 65], [[0] * 65, [0] * 65], [[1]] * 65, empties(65)):
            with self.assertRaises(BadShape):
                Grid(rows)
            with self.assertRaises(BadShape):
                Grid.of([[Ratio(number) for number in row] for row in rows])

    def test_unequal_lengths(self):
        for rows in ([[1], []], [[], [1]], [[1, 2], [1]], [[1], [1, 2]], [[1, 2], [3, 4], [5]]):
            with self.assertRaises(BadShape):
                Grid(rows)
            with self.assertRaises(BadShape):
                Grid.of([[Ratio(number) for number in row] for row in rows])

    def test_over(self):
        self.fields(Grid([[1]], 1), ((1,),), 1, 1, 1)
        for over in (0, -1, -10 ** 20):
            for rows in ([[1]], [], [[0, 0]], empties(3)):
                with self.assertRaises(OutOfBounds) as caught:
                    Grid(rows, over)
                self.assertEqual(caught.exception.value, over)

    def test_shape_is_checked_ahead_of_over(self):
        for rows in ([[1], []], [[0] * 65], [[1]] * 65):
            with self.assertRaises(BadShape):
                Grid(rows, 0)

    def test_rows_are_copied(self):
        rows = [[1, 2], [3, 4]]
        grid = Grid(rows)
        rows[0][0] = 9
        rows.append([5, 6])
        self.fields(grid, ((1, 2), (3, 4)), 1, 2, 2)

    def test_rows_stay(self):
        rows = [[2, 4], [6, 8]]
        Grid(rows, 2)
        self.assertEqual(rows, [[2, 4], [6, 8]])


class Of(Case):
    def test_entries(self):
        self.fields(Grid.of([ratios("1/2", "-1/3"), ratios("0", "5")]), ((3, -2), (0, 30)), 6, 2, 2)
        self.fields(Grid.of([ratios("2/3", "4/3")]), ((2, 4),), 3, 1, 2)
        self.fields(Grid.of([ratios("1/4", "1/6")]), ((3, 2),), 12, 1, 2)
        self.fields(Grid.of((tuple(ratios("2", "4")),)), ((2, 4),), 1, 1, 2)

    def test_no_entries(self):
        self.fields(Grid.of([]), (), 1, 0, 0)
        self.fields(Grid.of([[], []]), ((), ()), 1, 2, 0)
        self.fields(Grid.of([ratios("0", "0")]), ((0, 0),), 1, 1, 2)

    def test_equal_to_the_grid_over_a_number(self):
        for grid in random_grids(10, 30, 3, 4):
            again = Grid.of([[grid[i, j] for j in range(4)] for i in range(3)])
            self.assertEqual(again, grid)

    def test_greatest_sizes(self):
        grid = Grid.of([[Ratio(i, j + 1) for j in range(64)] for i in range(64)])
        self.assertEqual(grid[63, 63], Ratio(63, 64))


class Unit(Case):
    def test_sizes(self):
        self.fields(Grid.unit(0), (), 1, 0, 0)
        self.fields(Grid.unit(1), ((1,),), 1, 1, 1)
        self.fields(Grid.unit(3), ((1, 0, 0), (0, 1, 0), (0, 0, 1)), 1, 3, 3)
        grid = Grid.unit(64)
        self.assertEqual((grid.height, grid.width, grid.trace()), (64, 64, Ratio(64)))

    def test_refused_sizes(self):
        for size in (-1, 65, -64, 1000):
            with self.assertRaises(BadShape):
                Grid.unit(size)


class Arithmetic(Case):
    def test_sum_and_difference(self):
        lefts = random_grids(1, 40, 2, 3)
        rights = random_grids(2, 40, 2, 3)
        for a, b in zip(lefts, rights):
            for got, sign in ((a + b, 1), (a - b, -1)):
                wanted = [[x + sign * y for x, y in zip(*rows)] for rows in zip(entries(a), entries(b))]
                self.assertIs(type(got), Grid)
                self.assertEqual(entries(got), wanted)
                self.assertEqual(Grid(got.rows, got.over).over, got.over)

    def test_results_are_in_lowest_terms(self):
        half = Grid([[1, 3]], 2)
        self.fields(half + half, ((1, 3),), 1, 1, 2)
        self.fields(half - half, ((0, 0),), 1, 1, 2)
        self.fields(half * Grid([[2], [2]]), ((4,),), 1, 1, 1)
        self.fields(Grid([[1]], 6) + Grid([[1]], 3), ((1,),), 2, 1, 1)

    def test_product(self):
        lefts = random_grids(3, 40, 2, 3)
        rights = random_grids(4, 40, 3, 4)
        for a, b in zip(lefts, rights):
            self.assertIs(type(a * b), Grid)
            self.assertEqual(entries(a * b), product_of(entries(a), entries(b)))

    def test_product_is_rows_by_columns(self):
        self.fields(Grid([[1, 2]]) * Grid([[3], [4]]), ((11,),), 1, 1, 1)
        self.fields(Grid([[3], [4]]) * Grid([[1, 2]]), ((3, 6), (4, 8)), 1, 2, 2)

    def test_sizes_that_do_not_fit(self):
        pairs = [([[1]], [[1, 2]]), ([[1]], [[1], [2]]), ([], [[]]), ([], [[1]]), ([[], []], [[]]),
                 ([[1, 2]], [[1], [2]])]
        for left, right in pairs:
            for a, b in ((Grid(left), Grid(right)), (Grid(right), Grid(left))):
                with self.assertRaises(BadShape):
                    a + b
                with self.assertRaises(BadShape):
                    a - b
        for left, right in (([[1, 2]], [[1, 2]]), ([[1]], []), ([], [[1]]), ([[1]], [[1], [2]]), ([], [[]])):
            with self.assertRaises(BadShape):
                Grid(left) * Grid(right)

    def test_without_rows_or_columns(self):
        none = Grid([])
        for got in (none + none, none - none, none * none):
            self.fields(got, (), 1, 0, 0)
        bare = Grid(empties(2))
        for got in (bare + bare, bare - bare, bare * none, Grid([[1, 2], [3, 4]]) * bare):
            self.fields(got, ((), ()), 1, 2, 0)
        self.fields(Grid([[1, 2]] * 3) * bare, ((), (), ()), 1, 3, 0)

    def test_operands_stay(self):
        a, b = Grid([[1, 2], [3, 4]], 3), Grid([[5, 6], [7, 8]], 5)
        for _ in (a + b, a - b, a * b, a.scaled(Ratio(2)), a.turned(), a.part([1], [0]), a.trace()):
            self.fields(a, ((1, 2), (3, 4)), 3, 2, 2)
            self.fields(b, ((5, 6), (7, 8)), 5, 2, 2)

    def test_equality(self):
        self.assertIs(Grid([[1, 2]], 3) == Grid([[2, 4]], 6), True)
        self.assertIs(Grid([[1, 2]], 3) != Grid([[2, 4]], 6), False)
        self.assertIs(Grid([[1, 2]], 3) == Grid([[1, 2]], 5), False)
        self.assertIs(Grid([[1, 2]]) == Grid([[1, 3]]), False)
        self.assertIs(Grid([[1, 2]]) == Grid([[1], [2]]), False)
        self.assertIs(Grid([]) == Grid([[]]), False)
        self.assertIs(Grid([]) == Grid([], 5), True)
        for other in (1, "1", ((1,),), [[1]], None, Ratio(1)):
            self.assertIs(Grid([[1]]) == other, False)
            self.assertIs(other == Grid([[1]]), False)


class Entries(Case):
    def test_entry(self):
        grid = Grid([[1, 2, 3], [4, 5, -6]], 4)
        self.assertIs(type(grid[0, 0]), Ratio)
        self.assertEqual([grid[0, 0].text(), grid[1, 2].text(), grid[0, 1].text(), grid[1, 0].text()],
                         ["1/4", "-3/2", "1/2", "1"])

    def test_no_such_entry(self):
        grid = Grid([[1, 2, 3], [4, 5, 6]])
        for at in ((-1, 0), (2, 0), (0, -1), (0, 3), (2, 3), (-1, -1), (100, 0)):
            with self.assertRaises(BadPlace) as caught:
                grid[at]
            self.assertEqual(caught.exception.place, at)
            self.assertIs(type(caught.exception.place), tuple)

    def test_no_entries_at_all(self):
        for grid in (Grid([]), Grid([[]])):
            with self.assertRaises(BadPlace) as caught:
                grid[0, 0]
            self.assertEqual(caught.exception.place, (0, 0))

    def test_entries_are_not_iterated_over(self):
        with self.assertRaises(TypeError):
            list(Grid([[1, 2]]))


class Scaled(Case):
    def test_scaled(self):
        grid = Grid([[1, 2], [3, -4]], 5)
        self.fields(grid.scaled(Ratio(5)), ((1, 2), (3, -4)), 1, 2, 2)
        self.fields(grid.scaled(Ratio(-1, 2)), ((-1, -2), (-3, 4)), 10, 2, 2)
        self.fields(grid.scaled(Ratio(0)), ((0, 0), (0, 0)), 1, 2, 2)
        self.fields(Grid([]).scaled(Ratio(1, 2)), (), 1, 0, 0)
        self.fields(Grid([[]]).scaled(Ratio(1, 2)), ((),), 1, 1, 0)


class Turned(Case):
    def test_turned(self):
        self.fields(Grid([[1, 2, 3], [4, 5, 6]], 7).turned(), ((1, 4), (2, 5), (3, 6)), 7, 3, 2)
        self.fields(Grid([]).turned(), (), 1, 0, 0)
        self.fields(Grid(empties(3)).turned(), (), 1, 0, 0)

    def test_symmetric(self):
        self.assertEqual(Grid([[1, 2], [2, 3]], 7).turned(), Grid([[1, 2], [2, 3]], 7))
        self.assertNotEqual(Grid([[1, 2], [3, 3]]).turned(), Grid([[1, 2], [3, 3]]))


class Part(Case):
    grid = Grid([[1, 2, 3], [4, 5, 6]], 7)

    def test_places_in_their_orders(self):
        self.fields(self.grid.part([1, 0], [2, 0]), ((6, 4), (3, 1)), 7, 2, 2)
        self.fields(self.grid.part((1,), (1,)), ((5,),), 7, 1, 1)
        self.fields(self.grid.part([0, 1], [0, 1, 2]), ((1, 2, 3), (4, 5, 6)), 7, 2, 3)

    def test_places_more_than_once(self):
        self.fields(self.grid.part([1, 1, 0], [2, 2]), ((6, 6), (6, 6), (3, 3)), 7, 3, 2)

    def test_lowest_terms(self):
        self.fields(Grid([[2, 3], [4, 5]], 4).part([0, 1], [0]), ((1,), (2,)), 2, 2, 1)

    def test_no_places(self):
        self.fields(self.grid.part([], []), (), 1, 0, 0)
        self.fields(self.grid.part([], [0, 1]), (), 1, 0, 0)
        self.fields(self.grid.part([0, 1], []), ((), ()), 1, 2, 0)
        self.fields(Grid([]).part([], []), (), 1, 0, 0)

    def refuse(self, rows, columns, place):
        with self.assertRaises(BadPlace) as caught:
            self.grid.part(rows, columns)
        self.assertEqual(caught.exception.place, place)

    def test_no_such_place(self):
        self.refuse([0, 2], [0], 2)
        self.refuse([-1], [0], -1)
        self.refuse([0], [3], 3)
        self.refuse([0], [0, -2, 7], -2)
        self.refuse([], [3], 3)
        self.refuse([1, 5, 9], [0], 5)

    def test_row_places_come_first(self):
        self.refuse([0, 2], [9], 2)
        self.refuse([2], [3], 2)

    def test_too_many_places(self):
        self.fields(self.grid.part([1] * 64, [0] * 64), ((4,) * 64,) * 64, 7, 64, 64)
        for rows, columns in (([0] * 65, [0]), ([0], [0] * 65), ([], [0] * 65), ([0] * 65, [])):
            with self.assertRaises(BadShape):
                self.grid.part(rows, columns)

    def test_place_is_checked_ahead_of_shape(self):
        self.refuse([0] * 65 + [2], [0], 2)
        self.refuse([0] * 65, [3], 3)
        self.refuse([0], [0] * 65 + [-1], -1)


class Form(Case):
    grid = Grid([[1, 2, 3], [4, 5, 6]], 7)

    def test_form(self):
        got = self.grid.form([1, -2], [3, 0, 1])
        self.assertIs(type(got), Ratio)
        self.assertEqual(got, Ratio(3 + 3 - 2 * (12 + 6), 7))
        self.assertEqual(self.grid.form((0, 1), (0, 1, 0)), Ratio(5, 7))
        self.assertEqual(Grid([]).form([], []), Ratio(0))
        self.assertEqual(Grid(empties(2)).form([1, 2], []), Ratio(0))

    def test_wrong_sizes(self):
        for left, right in (([1], [1, 2, 3]), ([1, 2, 3], [1, 2, 3]), ([1, 2], [1, 2]), ([1, 2], [1, 2, 3, 4]),
                            ([1, 2, 3], [1, 2]), ([], [])):
            with self.assertRaises(BadShape):
                self.grid.form(left, right)

    def test_lists_stay(self):
        left, right = [1, 2], [3, 4, 5]
        self.grid.form(left, right)
        self.assertEqual((left, right), ([1, 2], [3, 4, 5]))


class Trace(Case):
    def test_trace(self):
        got = Grid([[1, 2], [3, 5]], 4).trace()
        self.assertIs(type(got), Ratio)
        self.assertEqual(got.text(), "3/2")
        self.assertEqual(Grid([]).trace(), Ratio(0))
        self.assertEqual(Grid([[-3]], 2).trace(), ratio("-3/2"))

    def test_wrong_sizes(self):
        for rows in ([[1, 2]], [[1], [2]], empties(1), empties(2)):
            with self.assertRaises(BadShape):
                Grid(rows).trace()

    def test_trace_of_products(self):
        for a, b in zip(random_grids(5, 20, 2, 3), random_grids(6, 20, 3, 2)):
            self.assertEqual((a * b).trace(), (b * a).trace())
            self.assertEqual(fraction((a * b).trace()), sum(
                (x * y for row, column in zip(entries(a), turned(entries(b))) for x, y in zip(row, column)),
                Fraction(0)))


if __name__ == "__main__":
    unittest.main()
