"""Points 67 and 68: few loads of several books, put together and thinned."""

import unittest
from random import Random

from fewcarry.books.book import Book
from fewcarry.books.load import Load
from fewcarry.certificates.claim import Claim
from fewcarry.certificates.judging import judge
from fewcarry.exact.errors import BadPlace, BadQ, BadShape, Loose, TooHeavy, TooMany, TwinLabel
from fewcarry.exact.ratio import Ratio
from fewcarry.streams.merging import merge_plan, side_by_side, thinned
from fewcarry.thins.bars import Bars
from fewcarry.thins.fewest import Few, fewest
from tests.support import failure, load, random_books, ratio, ratios

ONE = Ratio(1)
TWO = Ratio(2)
QS = ratios("3/2", "4/3", "3", "2", "13/12", "5/4")


def renamed(book, letter):
    return Book(book.width, [Load(letter + item.label[1:], item.weight, item.numbers) for item in book])


def some_parts(seed, many, width):
    """Books of one width without common labels."""
    return [renamed(book, "bcdefghijklmnopqrstuvwxyz"[k]) for k, book in
            enumerate(random_books(seed, many, width, most_loads=12))]


def rich_parts(many, loads=8, width=3):
    """Books that are surely thinned for 13/12, which takes fewer steps than there are squares."""
    random = Random(67)
    return [Book(width, [Load("%s%d" % ("bcdefghijklmnop"[k], i), Ratio(1, i + 1),
                              [random.randint(-3, 3) for _ in range(width)]) for i in range(loads)])
            for k in range(many)]


def heavy_part(letter, many, width=12):
    return Book(width, [load("%s%d" % (letter, k), "1", *[(k * j + j * j + k // 12) % 13 for j in range(width)])
                        for k in range(many)])


def same(one, two):
    return one.book == two.book and one.factor == two.factor


class SideBySide(unittest.TestCase):
    def test_side_by_side(self):
        one, two = some_parts(1, 2, 2)
        for first, second in (("2", "3"), ("3", "2"), ("1", "1"), ("7/3", "9/4")):
            got = side_by_side(Few(one, ratio(first)), Few(two, ratio(second)))
            self.assertIs(type(got), Few)
            self.assertEqual(got.book, one + two)
            self.assertEqual(got.factor, max(ratios(first, second), key=lambda item: item.top / item.bottom))

    def test_errors(self):
        few = Few(Book(2, [load("a", "1", 1, 0)]), TWO)
        self.assertEqual(failure(side_by_side, few, Few(Book(3, []), ONE)), (BadShape, {}))
        self.assertEqual(failure(side_by_side, few, few), (TwinLabel, {"label": "a"}))
        many = Few(Book(2, [load("b%d" % k, "1", 1, 0) for k in range(200)]), ONE)
        self.assertEqual(failure(side_by_side, few, many), (TooMany, {"most": 200}))


class Thinned(unittest.TestCase):
    def test_thinned(self):
        factors = set()
        for k, book in enumerate(some_parts(2, 9, 3) + rich_parts(3)):
            for factor in ratios("1", "9/4"):
                q = QS[k % 6]
                got, fewer = thinned(Few(book, factor), q), fewest(book, q)
                self.assertIs(type(got), Few)
                self.assertEqual((got.book, got.factor), (fewer.book, fewer.factor * factor))
                factors.add(fewer.factor == ONE)
        self.assertEqual(factors, {True, False})

    def test_errors(self):
        for q in ratios("1", "49/12", "14/13"):
            self.assertEqual(failure(thinned, Few(heavy_part("a", 200), TWO), q), (BadQ, {"q": q}))
        self.assertEqual(failure(thinned, Few(heavy_part("a", 60), TWO), Ratio(4)), (TooHeavy, {"work": 60 * 78 * 78}))


class Merged(unittest.TestCase):
    def test_by_definition(self):
        for width, many in ((1, 2), (2, 5), (3, 4), (2, 3)):
            for k, parts in enumerate((some_parts(width, many, width), rich_parts(many, 9, width))):
                q = QS[(k + width) % 6]
                for plan in self.plans(many, k):
                    things = [Few(part, ONE) for part in parts]
                    for i, j in plan:
                        things.append(thinned(side_by_side(things[i], things[j]), q))
                    self.assertTrue(same(merge_plan(parts, plan, q), things[-1]))

    @staticmethod
    def plans(many, seed):
        """A plan that goes on from part to part, and two by chance."""
        yield [(0, 1)] + [(many + k - 2, k) for k in range(2, many)]
        random = Random(seed)
        for _ in range(2):
            loose, plan = list(range(many)), []
            while len(loose) > 1:
                pair = random.sample(loose, 2)
                loose = [place for place in loose if place not in pair] + [many + len(plan)]
                plan.append(tuple(pair))
            yield plan

    def test_carries(self):
        q = ratio("13/12")
        parts = rich_parts(5)
        total = Book(3, [item for part in parts for item in part])
        bound = Bars(q, 3).bound
        for plan, depth in (([(0, 1), (2, 3), (5, 6), (7, 4)], 3), ([(0, 1), (5, 2), (6, 3), (7, 4)], 4)):
            got = merge_plan(parts, plan, q)
            self.assertIs(type(got), Few)
            judge(Claim.of(got, total))
            self.assertGreater(got.factor.compare(ONE), 0)
            self.assertLessEqual(got.factor.compare(bound ** depth), 0)

    def test_order_within_a_pair(self):
        parts = rich_parts(2)
        one, two = merge_plan(parts, [(0, 1)], TWO), merge_plan(parts, [(1, 0)], TWO)
        self.assertEqual(one.book, fewest(parts[0] + parts[1], TWO).book)
        self.assertEqual(two.book, fewest(parts[1] + parts[0], TWO).book)

    def test_one_part(self):
        part = rich_parts(1)[0]
        for q in QS:
            got = merge_plan([part], [], q)
            self.assertTrue(same(got, Few(part, ONE)))

    def test_tuples_and_arguments(self):
        parts, plan = rich_parts(3), [(2, 0), (3, 1)]
        got = merge_plan(tuple(parts), tuple(plan), TWO)
        self.assertTrue(same(got, merge_plan(parts, [[2, 0], [3, 1]], TWO)))
        self.assertEqual((len(parts), plan), (3, [(2, 0), (3, 1)]))

    def test_most_parts(self):
        parts = [Book(1, [load("a%d" % k, "1", k)]) for k in range(33)]
        got = merge_plan(parts[:32], [(0, 1)] + [(k + 30, k) for k in range(2, 32)], TWO)
        self.assertEqual(got.book.text(), "book 1\na1 %d: 1" % sum(k * k for k in range(32)))
        self.assertEqual(failure(merge_plan, parts, [(0, 99)], ONE), (TooMany, {"most": 32}))


class Errors(unittest.TestCase):
    PARTS = rich_parts(4)

    def check(self, plan, wanted, q=ONE):
        # The parameter is refused, too, but later.
        self.assertEqual(failure(merge_plan, self.PARTS, plan, q), wanted)

    def test_no_part(self):
        for plan in ([], [(0, 1)]):
            self.assertEqual(failure(merge_plan, [], plan, ONE), (BadShape, {}))
            self.assertEqual(failure(merge_plan, (), plan, ONE), (BadShape, {}))

    def test_places(self):
        for place in (-1, 4, 5, 100):
            self.check([(place, place)], (BadPlace, {"place": place}))
            self.check([(0, place)], (BadPlace, {"place": place}))
            self.check([(0, 1), (place if place != 4 else 6, 0)], (BadPlace, {"place": place if place != 4 else 6}))
        # A pair does not have its own thing, and the next one does.
        self.check([(0, 4)], (BadPlace, {"place": 4}))
        self.check([(0, 1), (4, 5)], (BadPlace, {"place": 5}))

    def test_used_twice(self):
        self.check([(2, 2)], (BadPlace, {"place": 2}))
        self.check([(0, 1), (1, 9)], (BadPlace, {"place": 1}))
        self.check([(0, 1), (2, 0)], (BadPlace, {"place": 0}))
        self.check([(0, 1), (4, 2), (4, 3)], (BadPlace, {"place": 4}))
        self.check([(0, 1), (4, 2), (5, 3), (6, 6)], (BadPlace, {"place": 6}))

    def test_loose(self):
        self.check([], (Loose, {"places": (0, 1, 2, 3)}))
        self.check([(3, 0)], (Loose, {"places": (1, 2, 4)}))
        self.check([(3, 0), (2, 1)], (Loose, {"places": (4, 5)}))
        self.check([(3, 0), (4, 1)], (Loose, {"places": (2, 5)}))

    def test_q(self):
        for q in ratios("1", "49/12", "14/13", "0"):
            self.check([(0, 1), (2, 3), (4, 5)], (BadQ, {"q": q}), q)
            self.assertEqual(failure(merge_plan, self.PARTS[:1], [], q), (BadQ, {"q": q}))
            # Ahead of what is wrong with the parts.
            self.assertEqual(failure(merge_plan, [Book(1, []), Book(2, [])], [(0, 1)], q), (BadQ, {"q": q}))

    def test_pair_by_pair(self):
        other, twin = Book(2, [load("z", "1", 1, 0)]), self.PARTS[0]
        heavy = [heavy_part("x", 60), heavy_part("y", 60)]
        work = (TooHeavy, {"work": 120 * 78 * 78})
        four = Ratio(4)
        for parts, plan, wanted in (
                ([self.PARTS[0], other], [(0, 1)], (BadShape, {})),
                ([self.PARTS[0], twin], [(0, 1)], (TwinLabel, {"label": "b0"})),
                (heavy, [(0, 1)], work),
                (heavy + [other], [(0, 1), (2, 3)], work),
                (heavy + [other], [(1, 2), (0, 3)], (BadShape, {})),
                (heavy + [self.PARTS[0], twin], [(2, 3), (0, 1), (4, 5)], (TwinLabel, {"label": "b0"})),
                (heavy + [self.PARTS[0], twin], [(0, 1), (2, 3), (4, 5)], work)):
            self.assertEqual(failure(merge_plan, parts, plan, four), wanted)


if __name__ == "__main__":
    unittest.main()
