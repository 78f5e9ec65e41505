"""Points 69 and 70: streams of loads."""

import unittest
from random import Random

from fewcarry.books.book import Book
from fewcarry.books.load import Load
from fewcarry.certificates.claim import Claim
from fewcarry.certificates.judging import judge
from fewcarry.exact.errors import BadQ, BadShape, OutOfBounds, Refused, TooHeavy, TooMany, TwinLabel
from fewcarry.exact.ratio import Ratio
from fewcarry.streams.merging import side_by_side, thinned
from fewcarry.streams.stream import Stream
from fewcarry.thins.bars import Bars
from fewcarry.thins.fewest import Few
from tests.support import failure, load, ratio, ratios

ONE = Ratio(1)
FINE = ratio("13/12")


def loads_of(many, width=3, seed=69):
    random = Random(seed)
    return [Load("l%d" % k, Ratio(random.randint(1, 9), random.randint(1, 5)),
                 [random.randint(-3, 3) for _ in range(width)]) for k in range(many)]


def heavy_loads(many):
    return [load("h%d" % k, "1", *[(k * j + j * j + k // 12) % 13 for j in range(12)]) for k in range(many)]


def digits(number):
    """The places of the digits 1 in base 2, in descending order."""
    return [place for place in range(20, -1, -1) if number >> place & 1]


def kept(stream):
    """All that can be seen of a stream."""
    few = stream.summary()
    return stream.count, stream.levels(), few.book, few.factor


def pieces_of(loads, level, block, q):
    """The Few of the given level for so many loads, by halves."""
    if level == 0:
        return Few(Book(len(loads[0].numbers), loads), ONE)
    half = block * 2 ** (level - 1)
    return thinned(side_by_side(pieces_of(loads[:half], level - 1, block, q),
                                pieces_of(loads[half:], level - 1, block, q)), q)


class Made(unittest.TestCase):
    def test_fields(self):
        stream = Stream(3, 4, Ratio(2))
        self.assertEqual((stream.width, stream.block, stream.q, stream.count), (3, 4, Ratio(2), 0))
        self.assertEqual((stream.levels(), stream.summary().book, stream.summary().factor), ([], Book(3, []), ONE))
        self.assertIs(type(stream.summary()), Few)

    def test_bounds(self):
        for width in (0, -1, 13, 100):
            self.assertEqual(failure(Stream, width, 99, ONE), (OutOfBounds, {"value": width}))
        for block in (0, -1, 51, 1000):
            self.assertEqual(failure(Stream, 12, block, ONE), (OutOfBounds, {"value": block}))
        for q in ratios("1", "49/12", "14/13", "0"):
            self.assertEqual(failure(Stream, 1, 50, q), (BadQ, {"q": q}))
        for width, block in ((1, 1), (12, 50)):
            self.assertEqual(Stream(width, block, FINE).levels(), [])


class Fed(unittest.TestCase):
    def test_by_definition(self):
        for block, q, many in ((1, FINE, 40), (3, FINE, 40), (5, Ratio(2), 43), (4, ratio("4/3"), 30)):
            loads = loads_of(many)
            stream = Stream(3, block, q)
            for k, item in enumerate(loads):
                self.assertIs(stream.feed(item), None)
                self.assertEqual(stream.count, k + 1)
                levels = stream.levels()
                self.assertIs(type(levels), list)
                self.assertEqual(levels, digits((k + 1) // block))
                if k % 3 == 0 or k == many - 1:
                    self.check_summary(stream, loads[:k + 1], levels)

    def check_summary(self, stream, loads, levels):
        wanted, factor, at = [], ONE, 0
        for level in levels:
            many = stream.block * 2 ** level
            piece = pieces_of(loads[at:at + many], level, stream.block, stream.q)
            wanted += piece.book.loads
            factor = piece.factor if piece.factor.compare(factor) > 0 else factor
            at += many
        wanted += loads[at:]
        few = stream.summary()
        self.assertIs(type(few), Few)
        self.assertEqual((few.book, few.factor), (Book(stream.width, wanted), factor))
        judge(Claim.of(few, Book(stream.width, loads)))
        bound = Bars(stream.q, 0).bound
        self.assertLessEqual(factor.compare(bound ** (levels[0] if levels else 0)), 0)

    def test_factor_grows_with_the_levels(self):
        stream = Stream(3, 3, FINE)
        stream += loads_of(24)
        self.assertEqual(stream.levels(), [3])
        self.assertGreater(stream.summary().factor.compare(Bars(FINE, 3).factor), 0)

    def test_block_1(self):
        stream = Stream(2, 1, Ratio(2))
        seen = []
        for item in loads_of(8, 2):
            stream.feed(item)
            seen.append(stream.levels())
        # The eighth load lets pieces of equal levels be put together three times.
        self.assertEqual(seen, [[0], [1], [1, 0], [2], [2, 0], [2, 1], [2, 1, 0], [3]])

    def test_shape(self):
        stream = Stream(2, 3, FINE)
        stream += loads_of(4, 2)
        before = kept(stream)
        for numbers in ([1], [1, 2, 3]):
            self.assertEqual(failure(stream.feed, load("l0", "1", *numbers)), (BadShape, {}))
        self.assertEqual(kept(stream), before)

    def test_labels_that_are_no_longer_kept(self):
        stream = Stream(1, 2, Ratio(2))
        loads = [load("a%d" % k, "1", k + 1) for k in range(9)]
        stream += loads
        gone = [item.label for item in loads if item.label not in stream.summary().book]
        self.assertGreater(len(gone), 0)
        before = kept(stream)
        for item in loads:
            self.assertEqual(failure(stream.feed, load(item.label, "5", 7)), (TwinLabel, {"label": item.label}))
        self.assertEqual(kept(stream), before)

    def test_too_heavy(self):
        # For 4 and rank 12 all squares are kept exactly, which is too much work for more than 49 loads.
        loads = heavy_loads(60)
        stream = Stream(12, 25, Ratio(4))
        stream += loads[:49]
        before = kept(stream)
        self.assertEqual(failure(stream.feed, loads[49]), (TooHeavy, {"work": 50 * 78 * 78}))
        self.assertEqual(kept(stream), before)
        # The load was not fed, so it is not there already the second time.
        self.assertEqual(failure(stream.feed, loads[49]), (TooHeavy, {"work": 50 * 78 * 78}))
        self.assertEqual(failure(stream.feed, load("h0", "1", 1)), (BadShape, {}))
        self.assertEqual(failure(stream.feed, loads[0]), (TwinLabel, {"label": "h0"}))

    def test_too_many_for_a_summary(self):
        # Each piece above level 0 has 36 loads, as many as there are squares of 8 numbers.
        loads = loads_of(800, 8)
        stream = Stream(8, 50, Ratio(4))
        stream += loads[:792]
        self.assertEqual(stream.levels(), [3, 2, 1, 0])
        self.assertEqual(len(stream.summary().book), 36 * 3 + 50 + 42)
        stream.feed(loads[792])
        self.assertEqual(failure(stream.summary), (TooMany, {"most": 200}))
        # The stream goes on nevertheless.
        stream += loads[793:]
        self.assertEqual((stream.count, stream.levels(), len(stream.summary().book)), (800, [4], 36))


class InPlace(unittest.TestCase):
    def test_feeds_one_after_the_other(self):
        loads = loads_of(23)
        for kind in (list, tuple):
            stream, other = Stream(3, 3, FINE), Stream(3, 3, FINE)
            same = stream
            stream += kind(loads[:9])
            stream += kind(loads[9:])
            stream += kind([])
            for item in loads:
                other.feed(item)
            self.assertIs(stream, same)
            self.assertEqual(kept(stream), kept(other))
            self.assertEqual(failure(stream.feed, loads[0]), (TwinLabel, {"label": "l0"}))

    def refused(self, stream, loads):
        before, same = kept(stream), stream
        with self.assertRaises(Refused) as caught:
            stream += loads
        self.assertIs(stream, same)
        self.assertEqual(kept(stream), before)
        return caught.exception

    def test_all_or_none(self):
        stream = Stream(3, 2, FINE)
        loads = loads_of(12)
        stream += loads[:5]
        for at in (0, 1, 4):
            bad = loads[5:5 + at] + [load("x", "1", 1)] + loads[5 + at:]
            error = self.refused(stream, bad)
            self.assertEqual(error.at, at)
            self.assertIs(type(error.__cause__), BadShape)
        error = self.refused(stream, loads[5:8] + [loads[6]])
        self.assertEqual((error.at, type(error.__cause__), error.__cause__.label), (3, TwinLabel, "l6"))
        error = self.refused(stream, [loads[6], loads[2]])
        self.assertEqual((error.at, error.__cause__.label), (1, "l2"))
        # None of the labels counts as fed.
        stream += loads[5:]
        other = Stream(3, 2, FINE)
        other += loads
        self.assertEqual(kept(stream), kept(other))

    def test_too_heavy(self):
        loads = heavy_loads(50)
        stream = Stream(12, 25, Ratio(4))
        error = self.refused(stream, loads)
        self.assertEqual((error.at, type(error.__cause__), error.__cause__.work), (49, TooHeavy, 50 * 78 * 78))
        stream += loads[:49]
        self.assertEqual(stream.count, 49)

    def test_two_streams_do_not_share(self):
        one, two = Stream(1, 2, FINE), Stream(1, 2, FINE)
        one += [load("a", "1", 1), load("b", "1", 1), load("c", "1", 1)]
        self.assertEqual((two.count, two.levels()), (0, []))
        two += [load("a", "1", 1)]
        levels = one.levels()
        levels.append(7)
        self.assertEqual(one.levels(), [0])


if __name__ == "__main__":
    unittest.main()
