"""Point 28: the potentials."""

import unittest
from fractions import Fraction

from fewcarry.exact.errors import BadShape, NotAbove, NotSymmetric, OutOfBars
from fewcarry.exact.ratio import Ratio
from fewcarry.grids.grid import Grid
from fewcarry.thins.potentials import ceiling_potential, floor_potential
from tests.plain import ceiling_room, floor_room, is_above_zero, potential_in
from tests.support import entries, failure, fraction, random_grids, ratio, ratios

BARS = ratios("-7", "-2", "-1/2", "0", "1/3", "1", "2", "5", "19/2", "40")
BOTH = (ceiling_potential, "ceiling", ceiling_room), (floor_potential, "floor", floor_room)


def pairs(size):
    """Pairs of a core above zero and some symmetric grid."""
    made = []
    for k, a in enumerate(random_grids(size, 12, size, size)):
        core = a.turned() * a + Grid.unit(size).scaled(Ratio(1, 2 + k))
        b = random_grids(100 + size, 12, size, size)[k]
        made.append((core, b + b.turned()))
    return made


class Values(unittest.TestCase):
    def test_known(self):
        core, chosen = Grid([[2, 1], [1, 2]]), Grid([[1, 0], [0, 3]])
        # 4 * core - chosen is 7 4 over 4 5, with the determinant 19.
        self.assertEqual(ceiling_potential(core, chosen, Ratio(4)), Ratio(2 * 5 + 2 * 7 - 2 * 4, 19))
        # chosen + core is 3 1 over 1 5, with the determinant 14.
        self.assertEqual(floor_potential(core, chosen, Ratio(-1)), Ratio(2 * 5 + 2 * 3 - 2 * 1, 14))

    def test_by_definition(self):
        seen = set()
        for size in (1, 2, 3):
            for core, chosen in pairs(size):
                for bar in BARS:
                    for potential, side, room_of in BOTH:
                        room = room_of(entries(core), entries(chosen), fraction(bar))
                        fits = is_above_zero(room)
                        seen.add((side, fits))
                        if fits:
                            got = potential(core, chosen, bar)
                            self.assertIs(type(got), Ratio)
                            self.assertEqual(fraction(got), potential_in(entries(core), room))
                        else:
                            self.assertEqual(failure(potential, core, chosen, bar), (OutOfBars, {"side": side}))
        self.assertEqual(len(seen), 4)

    def test_zero_grid_as_chosen(self):
        for size in (1, 2, 3, 5):
            core = pairs(size)[0][0]
            zero = core - core
            for bar in ratios("1/7", "3", "12/5"):
                self.assertEqual(ceiling_potential(core, zero, bar), Ratio(size).divided(bar))
                self.assertEqual(floor_potential(core, zero, -bar), Ratio(size).divided(bar))
            for bar in ratios("0", "-1/7", "-3"):
                self.assertEqual(failure(ceiling_potential, core, zero, bar), (OutOfBars, {"side": "ceiling"}))
                self.assertEqual(failure(floor_potential, core, zero, -bar), (OutOfBars, {"side": "floor"}))

    def test_without_rows(self):
        nothing = Grid([])
        for bar in BARS:
            self.assertEqual(ceiling_potential(nothing, nothing, bar), Ratio(0))
            self.assertEqual(floor_potential(nothing, nothing, bar), Ratio(0))

    def test_just_at_the_bar(self):
        core, chosen = Grid([[1, 0], [0, 2]]), Grid([[3, 0], [0, 10]])
        self.assertEqual(failure(ceiling_potential, core, chosen, Ratio(5)), (OutOfBars, {"side": "ceiling"}))
        self.assertEqual(failure(floor_potential, core, chosen, Ratio(3)), (OutOfBars, {"side": "floor"}))
        self.assertEqual(ceiling_potential(core, chosen, ratio("11/2")), Ratio(2, 5) + Ratio(2))
        self.assertEqual(floor_potential(core, chosen, ratio("5/2")), Ratio(2) + Ratio(2, 5))

    def test_arguments_stay(self):
        core, chosen = pairs(3)[0]
        before = core.rows, core.over, chosen.rows, chosen.over
        ceiling_potential(core, chosen, Ratio(1000))
        floor_potential(core, chosen, Ratio(-1000))
        self.assertEqual((core.rows, core.over, chosen.rows, chosen.over), before)

    def test_of_size_12(self):
        core = Grid.unit(12).scaled(Ratio(2))
        chosen = Grid([[i + 1 if i == j else 0 for j in range(12)] for i in range(12)])
        expected = sum((Fraction(2, 20 - i - 1) for i in range(12)), Fraction(0))
        self.assertEqual(fraction(ceiling_potential(core, chosen, Ratio(10))), expected)


class Errors(unittest.TestCase):
    GOOD = Grid([[2, 1], [1, 2]])
    OBLONG = Grid([[1, 2]])
    CROOKED = Grid([[1, 2], [3, 1]])
    FLAT = Grid([[1, 1], [1, 1]])
    LOW = Grid([[1, 0], [0, -1]])

    def check(self, core, chosen, wanted, bar=Ratio(10)):
        self.assertEqual(failure(ceiling_potential, core, chosen, bar), wanted)
        self.assertEqual(failure(floor_potential, core, chosen, -bar), wanted)

    def test_each(self):
        self.check(self.OBLONG, self.GOOD, (BadShape, {}))
        self.check(self.CROOKED, self.GOOD, (NotSymmetric, {"row": 0, "column": 1}))
        self.check(self.GOOD, self.OBLONG, (BadShape, {}))
        self.check(self.GOOD, Grid([[0, 0, 0], [0, 0, 1], [0, 2, 0]]), (NotSymmetric, {"row": 1, "column": 2}))
        self.check(self.GOOD, Grid([[1]]), (BadShape, {}))
        self.check(self.GOOD, Grid([]), (BadShape, {}))
        self.check(Grid([]), self.GOOD, (BadShape, {}))
        for core in (self.FLAT, self.LOW, Grid([[0]]), Grid([[-1]])):
            self.check(core, core - core, (NotAbove, {}))

    def test_order(self):
        self.check(self.OBLONG, self.CROOKED, (BadShape, {}))
        self.check(self.CROOKED, self.OBLONG, (NotSymmetric, {"row": 0, "column": 1}))
        self.check(self.LOW, Grid([[1, 0, 0], [1, 1, 0], [0, 0, 1]]), (NotSymmetric, {"row": 0, "column": 1}))
        self.check(self.LOW, Grid([[1]]), (BadShape, {}))
        self.check(self.LOW, self.GOOD.scaled(Ratio(1000)), (NotAbove, {}))
        self.check(self.FLAT, self.GOOD, (NotAbove, {}), bar=Ratio(-1000))


if __name__ == "__main__":
    unittest.main()
