"""Points 29 and 30: the scores, and what they tell."""

import unittest
from fractions import Fraction

from fewcarry.books.book import Book
from fewcarry.exact.errors import BadFactor, BadShape, Crossed, NotAbove, NotSymmetric, OutOfBars
from fewcarry.exact.ratio import Ratio
from fewcarry.grids.grid import Grid
from fewcarry.thins.scores import ceiling_score, floor_score
from tests import plain
from tests.support import directions, entries, failure, fraction, load, random_books, random_grids, ratio

UNIT = Grid.unit(2)
ZERO = Grid([[0, 0], [0, 0]])


def cases():
    """Cores of books with all loads, some chosen grids, and pairs of bars that leave room for them."""
    books = [book for width in (1, 2, 3) for book in random_books(width, 14, width) if book.rank()]
    made = []
    for k, book in enumerate(books):
        size = book.rank()
        a = random_grids(k, 1, size, size, most=2)[0]
        chosen = entries(a + a.turned())
        core = entries(book.core())
        for up, down in ((Fraction(1), Fraction(1)), (Fraction(1, 3), Fraction(5, 2))):
            ceiling = next(n for n in range(1, 10 ** 6)
                           if plain.is_above_zero(plain.ceiling_room(core, chosen, Fraction(n, 3))))
            floor = next(n for n in range(1, 10 ** 6)
                         if plain.is_above_zero(plain.floor_room(core, chosen, Fraction(-n, 4))))
            made.append((book, core, chosen, Fraction(ceiling, 3), up, Fraction(-floor, 4), down))
    return made


CASES = cases()


def of(number):
    return Ratio(number.numerator, number.denominator)


def grid_of(rows):
    return Grid.of([[of(Fraction(number)) for number in row] for row in rows])


def scores_of(case, row, weight):
    """The ceiling score up to the case's next ceiling and the floor score up to its floor."""
    _, core, chosen, ceiling, up, floor, down = case
    high = ceiling_score(grid_of(core), grid_of(chosen), of(ceiling), of(ceiling + up), row, weight)
    low = floor_score(grid_of(core), grid_of(chosen), of(floor - down), of(floor), row, weight)
    return fraction(high), fraction(low)


class Values(unittest.TestCase):
    def test_known(self):
        # For one column: (6 - 0) / 3 + 1 over 9, and the floor from -2 to -1.
        core, chosen = Grid([[5]]), Grid([[0]])
        self.assertEqual(ceiling_score(core, chosen, Ratio(6), Ratio(9), [2], Ratio(1)), Ratio(4, 15))
        self.assertEqual(floor_score(core, chosen, Ratio(-2), Ratio(-1), [2], Ratio(1)), Ratio(4, 5))
        # For two columns, from 1 to 2: g is 1/2, the fall is 1, so 1/4 and 1/2; h is 1, the rise is 1.
        self.assertEqual(ceiling_score(UNIT, ZERO, Ratio(1), Ratio(2), [3, 4], Ratio(2)), Ratio(75, 2))
        self.assertEqual(floor_score(UNIT, ZERO, Ratio(-2), Ratio(-1), [3, 4], Ratio(2)), Ratio(0))

    def test_by_definition(self):
        for case in CASES:
            book, core, chosen, ceiling, up, floor, down = case
            for item in list(book)[:4]:
                row = book.reduced(item.label)
                high, low = scores_of(case, row, item.weight)
                weight = fraction(item.weight)
                self.assertEqual(high, plain.ceiling_score(core, chosen, ceiling, ceiling + up, row, weight))
                self.assertEqual(low, plain.floor_score(core, chosen, floor - down, floor, row, weight))

    def test_kind_and_rows(self):
        for row in ([0, 0], (1, -2), [10 ** 6, 1]):
            for score, low, high in ((ceiling_score, 1, 2), (floor_score, -3, -1)):
                got = score(UNIT, ZERO, Ratio(low), Ratio(high), row, Ratio(1, 3))
                self.assertIs(type(got), Ratio)
                self.assertEqual(got.sign() == 0, row == [0, 0])


class WhatTheyTell(unittest.TestCase):
    """Point 30."""

    def test_rates(self):
        below = above = 0
        for case in CASES:
            book, core, chosen, ceiling, up, floor, down = case
            for item in list(book)[:3]:
                row = book.reduced(item.label)
                if not any(row):
                    continue
                weight = fraction(item.weight)
                high, low = scores_of(case, row, item.weight)
                ceiling_was = plain.potential_in(core, plain.ceiling_room(core, chosen, ceiling))
                floor_was = plain.potential_in(core, plain.floor_room(core, chosen, floor - down))
                rates = {high, high * Fraction(999, 1000), high * Fraction(1001, 1000), low, low * Fraction(999, 1000),
                         low * Fraction(1001, 1000), Fraction(1, 50), Fraction(7)}
                for rate in sorted(rate for rate in rates if rate > 0):
                    later = plain.with_row(chosen, row, weight / rate)
                    room = plain.ceiling_room(core, later, ceiling + up)
                    fits = plain.is_above_zero(room) and plain.potential_in(core, room) <= ceiling_was
                    self.assertEqual(fits, rate >= high)
                    room = plain.floor_room(core, later, floor)
                    fits = plain.is_above_zero(room) and plain.potential_in(core, room) <= floor_was
                    self.assertEqual(fits, rate <= low)
                    below += rate < high
                    above += rate > low
        self.assertGreater(min(below, above), 50)

    def test_sums(self):
        for case in CASES:
            book, core, chosen, ceiling, up, floor, down = case
            scores = [scores_of(case, book.reduced(item.label), item.weight) for item in book]
            after = plain.potential_in(core, plain.ceiling_room(core, chosen, ceiling + up))
            self.assertLessEqual(sum(high for high, low in scores), 1 / up + after)
            before = plain.potential_in(core, plain.floor_room(core, chosen, floor - down))
            if down * before < 1:
                self.assertGreaterEqual(sum(low for high, low in scores), 1 / down - before)

    def test_the_next_floor_is_below_if_the_potential_is_small(self):
        seen = set()
        for book, core, chosen, ceiling, up, floor, down in CASES:
            before = plain.potential_in(core, plain.floor_room(core, chosen, floor))
            for rise in (Fraction(1, 50), Fraction(1, 5), Fraction(1), Fraction(3)):
                item = book.loads[0]
                row = book.reduced(item.label)
                given = grid_of(core), grid_of(chosen), of(floor), of(floor + rise), row, item.weight
                fits = plain.is_above_zero(plain.floor_room(core, chosen, floor + rise))
                seen.add((fits, rise * before < 1))
                if fits:
                    floor_score(*given)
                else:
                    self.assertEqual(failure(floor_score, *given), (OutOfBars, {"side": "floor"}))
        self.assertEqual(seen & {(False, True)}, set())
        self.assertLessEqual({(True, True), (False, False)}, seen)

    def test_loads_of_zeros_have_scores_of_zero(self):
        book = Book(2, [load("a", "1", 1, 2), load("b", "2", 0, 0), load("c", "1/3", -1, 2)])
        row = book.reduced("b")
        zero = book.core() - book.core()
        self.assertEqual(ceiling_score(book.core(), zero, Ratio(3), Ratio(4), row, Ratio(2)), Ratio(0))
        self.assertEqual(floor_score(book.core(), zero, Ratio(-3), Ratio(-2), row, Ratio(2)), Ratio(0))


class Errors(unittest.TestCase):
    GOOD = {"core": UNIT, "chosen": ZERO, "bar": None, "next_bar": None, "row": [1, 2], "weight": Ratio(1)}

    def check(self, wanted, **changes):
        for score, bar, next_bar in ((ceiling_score, 2, 3), (floor_score, -3, -2)):
            given = {**self.GOOD, "bar": Ratio(bar), "next_bar": Ratio(next_bar), **changes}
            self.assertEqual(failure(score, *given.values()), wanted)

    def test_grids(self):
        self.check((BadShape, {}), core=Grid([[1, 2]]), chosen=Grid([[1, 2], [3, 4]]))
        self.check((NotSymmetric, {"row": 0, "column": 1}), core=Grid([[1, 2], [3, 4]]), chosen=Grid([[1, 2]]))
        self.check((BadShape, {}), chosen=Grid([[1, 2]]))
        self.check((NotSymmetric, {"row": 0, "column": 1}), chosen=Grid([[1, 2], [3, 4]]), core=Grid([[1]]))
        self.check((BadShape, {}), core=Grid([[-1]]), row=[1])
        self.check((NotAbove, {}), core=Grid([[1, 1], [1, 1]]), bar=Ratio(1), next_bar=Ratio(1))
        self.check((NotAbove, {}), core=Grid([[0, 0], [0, 0]]), row=[], weight=Ratio(0))

    def test_bars(self):
        for bar, next_bar in ((5, 5), (5, 4), (0, 0), (-4, -5)):
            wanted = Crossed, {"low": Ratio(bar), "high": Ratio(next_bar)}
            self.check(wanted, bar=Ratio(bar), next_bar=Ratio(next_bar))
            self.check(wanted, bar=Ratio(bar), next_bar=Ratio(next_bar), row=[1], weight=Ratio(0))
        nothing = Grid([])
        self.check((Crossed, {"low": Ratio(1), "high": Ratio(1)}), core=nothing, chosen=nothing, row=[],
                   bar=Ratio(1), next_bar=Ratio(1))

    def test_rows(self):
        nothing = Grid([])
        for row in ([], [1], [1, 2]):
            self.check((BadShape, {}), core=nothing, chosen=nothing, row=row)
        for row in ([], [1], [1, 2, 3]):
            self.check((BadShape, {}), row=row)
            self.check((BadShape, {}), row=row, weight=Ratio(-1))

    def test_weights(self):
        for weight in (ratio("0"), ratio("-1"), ratio("-1/7")):
            self.check((BadFactor, {"factor": weight}), weight=weight)
        # Ahead of the bars that leave no room.
        given = UNIT, ZERO, Ratio(-1), Ratio(5), [1, 2], Ratio(0)
        self.assertEqual(failure(ceiling_score, *given), (BadFactor, {"factor": Ratio(0)}))
        self.assertEqual(failure(floor_score, *given), (BadFactor, {"factor": Ratio(0)}))

    def test_out_of_bars(self):
        row, weight = [1, 2], Ratio(1)
        ceiling = OutOfBars, {"side": "ceiling"}
        floor = OutOfBars, {"side": "floor"}
        chosen = Grid([[2, 0], [0, 3]])
        # The ceiling is asked for now, the floor for what comes next.
        self.assertEqual(failure(ceiling_score, UNIT, chosen, Ratio(3), Ratio(4), row, weight), ceiling)
        self.assertEqual(failure(ceiling_score, UNIT, chosen, Ratio(1), Ratio(2), row, weight), ceiling)
        self.assertEqual(failure(floor_score, UNIT, chosen, Ratio(1), Ratio(2), row, weight), floor)
        self.assertEqual(failure(floor_score, UNIT, chosen, Ratio(4), Ratio(5), row, weight), floor)
        ceiling_score(UNIT, chosen, ratio("301/100"), Ratio(4), row, weight)
        floor_score(UNIT, chosen, Ratio(1), ratio("199/100"), row, weight)


class Examples(unittest.TestCase):
    def test_all_directions_of_a_unit_grid_are_alike(self):
        for row in directions(2):
            many = sum(number * number for number in row)
            self.assertEqual(ceiling_score(UNIT, ZERO, Ratio(6), Ratio(9), row, Ratio(1)), Ratio(many) * Ratio(2, 9))


if __name__ == "__main__":
    unittest.main()
