"""Points 31 to 33: the moments of a thinning."""

import unittest
from fractions import Fraction

from fewcarry.books.book import Book
from fewcarry.exact.errors import (
    BadFactor, BadQ, BadShape, NoChoice, NoEnergy, NoLabel, NoStep, OutOfBars, OutOfBounds,
)
from fewcarry.exact.ratio import Ratio
from fewcarry.exact.simplest import simplest
from fewcarry.grids.grid import Grid
from fewcarry.thins.bars import Bars
from fewcarry.thins.stand import Choice, Stand
from fewcarry.thins.thinning import Thinning
from tests import plain
from tests.support import entries, failure, fraction, random_books, ratio, ratios, texts

TWO = Ratio(2)
AXES = Book.read("book 2\na 1: 1 0\nb 1: 0 1")
# The second column is twice the first one, and one load has only zeros.
NARROW = Book.read("book 2\na 1: 1 2\nz 5: 0 0\nb 1/2: 3 6\nc 2: -1 -2")
EMPTY = Book(3, [])
ZEROS = Book.read("book 2\na 1: 0 0\nb 2: 0 0")
CEILING = OutOfBars, {"side": "ceiling"}
FLOOR = OutOfBars, {"side": "floor"}


def some_stands():
    """Stands of several books and parameters, each with the ones that follow."""
    made = []
    for width, q in ((1, "2"), (2, "3/2"), (2, "3"), (3, "4/3"), (3, "2")):
        for book in random_books(width, 7, width, most_loads=6):
            made.extend(list(Thinning(book, ratio(q)).stands())[::2])
    return made


STANDS = some_stands()


class Made(unittest.TestCase):
    def test_fields(self):
        bars = Bars(TWO, 2)
        stand = Stand(AXES, bars, 4, {"b": ratio("7/2"), "a": Ratio(5)})
        self.assertIs(stand.book, AXES)
        self.assertIs(stand.bars, bars)
        self.assertEqual((stand.step, list(stand.amounts.items())), (4, [("a", Ratio(5)), ("b", Ratio(7, 2))]))
        self.assertEqual(stand.chosen, Grid([[10, 0], [0, 7]], 2))
        self.assertIs(type(stand.amounts), dict)

    def test_chosen_by_definition(self):
        self.assertGreater(len(STANDS), 40)
        for stand in STANDS:
            size = stand.book.rank()
            expected = [[Fraction(0)] * size for _ in range(size)]
            for label, amount in stand.amounts.items():
                weight = fraction(stand.book.load(label).weight)
                expected = plain.with_row(expected, stand.book.reduced(label), fraction(amount) * weight)
            self.assertEqual(entries(stand.chosen), expected)
            self.assertEqual((stand.chosen.height, stand.chosen.width), (size, size))
            labels = [item.label for item in stand.book if item.label in stand.amounts]
            self.assertEqual(list(stand.amounts), labels)

    def test_reduced_numbers(self):
        # The core is 1 + 9/2 + 2, and the chosen grid 4 * 1/2 * 9; the bars are 18 and 2.
        stand = Stand(NARROW, Bars(TWO, 1), 4, {"b": Ratio(4), "z": Ratio(9)})
        self.assertEqual(stand.chosen, Grid([[18]]))
        self.assertEqual(list(stand.amounts), ["z", "b"])
        self.assertEqual(failure(Stand, NARROW, Bars(TWO, 1), 4, {"b": Ratio(10, 3)}), FLOOR)
        self.assertEqual(failure(Stand, NARROW, Bars(TWO, 1), 4, {"b": Ratio(30)}), CEILING)

    def test_copies(self):
        amounts = {"a": Ratio(3)}
        stand = Stand(AXES, Bars(TWO, 2), 0, amounts)
        amounts["b"] = Ratio(1)
        del amounts["a"]
        self.assertEqual(stand.amounts, {"a": Ratio(3)})

    def test_start(self):
        for book in (AXES, NARROW, EMPTY, ZEROS):
            for q in ratios("2", "13/12", "4"):
                stand = Stand.start(book, q)
                self.assertIs(type(stand), Stand)
                self.assertEqual((stand.step, stand.amounts, stand.bars.q), (0, {}, q))
                self.assertIs(stand.book, book)
                size = book.rank()
                self.assertEqual((stand.bars.dimension, stand.chosen), (size, Grid([[0] * size] * size)))
        for q in ratios("1", "49/12", "14/13", "-2"):
            for book in (AXES, EMPTY):
                self.assertEqual(failure(Stand.start, book, q), (BadQ, {"q": q}))

    def test_rank_0(self):
        for book in (EMPTY, ZEROS):
            stand = Stand.start(book, TWO)
            self.assertEqual(stand.potentials(), (Ratio(0), Ratio(0)))
            self.assertEqual(failure(stand.choice), (NoStep, {}))
        stand = Stand(ZEROS, Bars(TWO, 0), 0, {"b": Ratio(3)})
        self.assertEqual((stand.amounts, stand.chosen), ({"b": Ratio(3)}, Grid([])))
        self.assertEqual(failure(stand.scores, "a"), (NoStep, {}))
        self.assertEqual(failure(stand.following, "a", Ratio(1)), (NoStep, {}))


class MadeErrors(unittest.TestCase):
    def test_shape(self):
        for dimension in (0, 1, 3):
            bars = Bars(TWO, dimension)
            self.assertEqual(failure(Stand, AXES, bars, -1, {"x": Ratio(0)}), (BadShape, {}))
        self.assertEqual(failure(Stand, NARROW, Bars(TWO, 2), 0, {}), (BadShape, {}))

    def test_step(self):
        for step in (-1, 9, 1000):
            self.assertEqual(failure(Stand, AXES, Bars(TWO, 2), step, {"x": Ratio(0)}), (OutOfBounds, {"value": step}))
        self.assertEqual(failure(Stand, EMPTY, Bars(TWO, 0), 1, {}), (OutOfBounds, {"value": 1}))
        self.assertEqual(Stand(AXES, Bars(TWO, 2), 8, {"a": Ratio(5), "b": Ratio(6)}).step, 8)

    def test_amounts(self):
        bars = Bars(TWO, 2)
        for label in ("c", "", "A b", "aaaaaaaaaaaa"):
            self.assertEqual(failure(Stand, AXES, bars, 8, {label: Ratio(0)}), (NoLabel, {"label": label}))
        for amount in ratios("0", "-1", "-1/9"):
            self.assertEqual(failure(Stand, AXES, bars, 8, {"a": amount}), (BadFactor, {"factor": amount}))
        # Item by item, and ahead of the bars.
        given = {"a": Ratio(100), "b": Ratio(0), "x": Ratio(1)}
        self.assertEqual(failure(Stand, AXES, bars, 0, given), (BadFactor, {"factor": Ratio(0)}))
        given = {"a": Ratio(100), "x": Ratio(0), "b": Ratio(-1)}
        self.assertEqual(failure(Stand, AXES, bars, 0, given), (NoLabel, {"label": "x"}))

    def test_bars(self):
        bars = Bars(TWO, 2)
        # At step 5 the ceiling is 27 and the floor is 1.
        for a, b, wanted in (("27", "2", CEILING), ("30", "1", CEILING), ("26", "1", FLOOR), ("1/2", "26", FLOOR)):
            self.assertEqual(failure(Stand, AXES, bars, 5, {"a": ratio(a), "b": ratio(b)}), wanted)
        Stand(AXES, bars, 5, {"a": ratio("269/10"), "b": ratio("11/10")})
        self.assertEqual(failure(Stand, AXES, bars, 4, {}), FLOOR)
        Stand(AXES, bars, 3, {})


class Potentials(unittest.TestCase):
    def test_first_stand_has_the_limits(self):
        for q in ratios("2", "13/12", "7/3", "4"):
            for book in (AXES, NARROW, Book.read("book 1\na 3/7: 4"), random_books(5, 1, 4, most_loads=9)[0]):
                stand = Stand.start(book, q)
                if book.rank():
                    self.assertEqual(stand.potentials(), (stand.bars.ceiling_limit, stand.bars.floor_limit))

    def test_by_definition(self):
        for stand in STANDS:
            core, chosen = entries(stand.book.core()), entries(stand.chosen)
            got = stand.potentials()
            self.assertIs(type(got), tuple)
            rooms = (plain.ceiling_room(core, chosen, fraction(stand.bars.ceiling(stand.step))),
                     plain.floor_room(core, chosen, fraction(stand.bars.floor(stand.step))))
            self.assertEqual([fraction(item) for item in got], [plain.potential_in(core, room) for room in rooms])


def plain_scores(stand, label):
    core, chosen = entries(stand.book.core()), entries(stand.chosen)
    item = stand.book.load(label)
    row, weight = stand.book.reduced(label), fraction(item.weight)
    q, size = fraction(stand.bars.q), stand.bars.dimension
    up = (q + 1) / (q - 1)
    ceiling, floor = up * (q * size + stand.step), stand.step - q * size
    return (plain.ceiling_score(core, chosen, ceiling, ceiling + up, row, weight),
            plain.floor_score(core, chosen, floor, floor + 1, row, weight))


class Scores(unittest.TestCase):
    def test_by_definition(self):
        for stand in STANDS:
            if stand.step < stand.bars.steps:
                for item in stand.book:
                    if any(item.numbers):
                        got = stand.scores(item.label)
                        self.assertIs(type(got), tuple)
                        expected = plain_scores(stand, item.label)
                        self.assertEqual(tuple(fraction(score) for score in got), expected)

    def test_known(self):
        stand = Stand.start(Book.read("book 1\na 1: 1\nb 1: 2"), TWO)
        self.assertEqual(texts(stand.scores("b")), ["4/15", "4/5"])
        self.assertEqual(texts(stand.scores("a")), ["1/15", "1/5"])

    def test_errors(self):
        # The last step, without energy, and the chosen grid not above the next floor.
        last = Stand(NARROW, Bars(TWO, 1), 4, {"b": Ratio(10)})
        near = Stand(NARROW, Bars(TWO, 1), 2, {"z": Ratio(1), "a": ratio("1/100")})
        for stand in (last, near, Stand.start(NARROW, TWO)):
            for label in ("x", "", "Z"):
                self.assertEqual(failure(stand.scores, label), (NoLabel, {"label": label}))
        self.assertEqual(failure(last.scores, "z"), (NoStep, {}))
        self.assertEqual(failure(last.scores, "a"), (NoStep, {}))
        self.assertEqual(failure(near.scores, "z"), (NoEnergy, {"label": "z"}))
        self.assertEqual(failure(near.scores, "a"), FLOOR)
        self.assertEqual(failure(Stand.start(NARROW, TWO).scores, "z"), (NoEnergy, {"label": "z"}))
        # With the next floor just reached there is no room either.
        at = Stand(AXES, Bars(TWO, 2), 4, {"a": Ratio(1), "b": Ratio(2)})
        self.assertEqual(failure(at.scores, "b"), FLOOR)


class TheChoice(unittest.TestCase):
    def test_by_definition(self):
        for stand in STANDS:
            if stand.step == stand.bars.steps:
                continue
            best = None
            for item in stand.book:
                if any(item.numbers):
                    low, high = plain_scores(stand, item.label)
                    if best is None or high - low > best[2] - best[1]:
                        best = item.label, low, high
            got = stand.choice()
            self.assertIs(type(got), Choice)
            self.assertEqual((got.label, fraction(got.low), fraction(got.high)), best)
            self.assertEqual((got.rate, got.amount), (simplest(got.low, got.high), Ratio(1).divided(got.rate)))

    def test_first_one_of_several(self):
        lines = ["a 1: 1 0", "b 1: 0 1", "c 1: 0 -1", "d 1: -1 0"]
        for order in ((0, 1, 2, 3), (3, 2, 1, 0), (2, 0, 3, 1)):
            book = Book.read("\n".join(["book 2", "z 1: 0 0"] + [lines[k] for k in order]))
            self.assertEqual(Stand.start(book, TWO).choice().label, "abcd"[order[0]])

    def test_greatest_difference_not_only_the_first(self):
        book = Book.read("book 1\na 1: 1\nb 1: 2\nc 1/2: 3\nd 1/2: -3")
        self.assertEqual(Stand.start(book, TWO).choice().label, "c")

    def test_difference_of_0(self):
        # The scores of both loads are equal and alike.
        stand = Stand(AXES, Bars(Ratio(4), 2), 31, {"a": ratio("80/3"), "b": ratio("80/3")})
        got = stand.choice()
        self.assertEqual([got.label] + texts([got.low, got.high, got.rate, got.amount]),
                         ["a", "5/16", "5/16", "5/16", "16/5"])

    def test_no_choice(self):
        bars = Bars(TWO, 2)
        stand = Stand(AXES, bars, 4, {"a": ratio("3/2"), "b": ratio("3/2")})
        self.assertEqual(texts(stand.scores("a"))[1], "-1/2")
        self.assertEqual(failure(stand.choice), (NoChoice, {}))
        # Just beside the stand with the difference 0.
        for amount, fits in (("80/3", True), ("799/30", False), ("267/10", True)):
            stand = Stand(AXES, Bars(Ratio(4), 2), 31, {"a": ratio(amount), "b": ratio(amount)})
            if fits:
                self.assertEqual(stand.choice().label, "a")
            else:
                self.assertEqual(failure(stand.choice), (NoChoice, {}))

    def test_errors(self):
        last = Stand(AXES, Bars(TWO, 2), 8, {"a": Ratio(5), "b": Ratio(5)})
        self.assertEqual(failure(last.choice), (NoStep, {}))
        near = Stand(AXES, Bars(TWO, 2), 7, {"a": Ratio(4), "b": Ratio(5)})
        self.assertEqual(failure(near.choice), FLOOR)
        # It is the last step that is looked at first.
        self.assertEqual(failure(Stand(AXES, Bars(TWO, 2), 8, {"a": ratio("9/2"), "b": ratio("9/2")}).choice),
                         (NoStep, {}))


class Following(unittest.TestCase):
    def test_amounts(self):
        stand = Stand.start(AXES, TWO)
        after = stand.following("b", ratio("3/2"))
        self.assertEqual((after.step, after.amounts), (1, {"b": Ratio(3, 2)}))
        self.assertIs(type(after), Stand)
        again = after.following("a", Ratio(1)).following("b", Ratio(1, 3))
        self.assertEqual((again.step, list(again.amounts.items())), (3, [("a", Ratio(1)), ("b", Ratio(11, 6))]))
        self.assertEqual((stand.step, stand.amounts), (0, {}))
        self.assertEqual((after.step, after.amounts), (1, {"b": Ratio(3, 2)}))
        self.assertIs(again.book, AXES)
        self.assertIs(again.bars, stand.bars)

    def test_errors(self):
        first = Stand.start(AXES, TWO)
        last = Stand(AXES, Bars(TWO, 2), 8, {"a": Ratio(5), "b": Ratio(5)})
        for stand in (first, last):
            for amount in ratios("0", "-3", "1"):
                self.assertEqual(failure(stand.following, "x", amount), (NoLabel, {"label": "x"}))
            for amount in ratios("0", "-3"):
                self.assertEqual(failure(stand.following, "a", amount), (BadFactor, {"factor": amount}))
        self.assertEqual(failure(last.following, "a", Ratio(1000)), (NoStep, {}))
        # The next ceiling is 15.
        self.assertEqual(failure(first.following, "a", Ratio(15)), CEILING)
        self.assertEqual(first.following("a", ratio("149/10")).step, 1)
        near = Stand(AXES, Bars(TWO, 2), 4, {"a": Ratio(1), "b": Ratio(1)})
        self.assertEqual(failure(near.following, "a", Ratio(1)), FLOOR)
        self.assertEqual(failure(near.following, "a", Ratio(100)), CEILING)

    def test_loads_of_zeros_may_have_an_amount(self):
        after = Stand.start(NARROW, TWO).following("z", Ratio(1000))
        self.assertEqual((after.amounts, after.chosen), ({"z": Ratio(1000)}, Grid([[0]])))


class WhatAChoiceDoes(unittest.TestCase):
    """Point 33."""

    def check(self, stand):
        bars = stand.bars
        finest = bars.finest(len(stand.book))
        got = stand.choice()
        self.assertGreaterEqual(fraction(got.high) - fraction(got.low), Fraction(1, finest))
        self.assertTrue(0 < fraction(got.rate) <= 1)
        self.assertLessEqual(got.rate.bottom, finest)
        before = stand.potentials()
        after = stand.following(got.label, got.amount).potentials()
        for was, now in zip(before, after):
            self.assertLessEqual(fraction(now), fraction(was))

    def test_on_the_way(self):
        seen = 0
        for stand in STANDS:
            if stand.step < stand.bars.steps:
                self.check(stand)
                seen += 1
        self.assertGreater(seen, 40)

    def test_beside_the_way(self):
        # Also for other amounts, if the potentials are within the limits.
        seen = 0
        for top in range(1, 40):
            for step in (1, 3, 6):
                stand = Stand(AXES, Bars(Ratio(3), 2), step, {"a": Ratio(top, 3), "b": Ratio(top + 1, 4)})
                if all(fraction(now) <= fraction(most) for now, most in
                       zip(stand.potentials(), (stand.bars.ceiling_limit, stand.bars.floor_limit))):
                    self.check(stand)
                    seen += 1
        self.assertGreater(seen, 10)


if __name__ == "__main__":
    unittest.main()
