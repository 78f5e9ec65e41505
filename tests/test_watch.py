"""Point 71: watches of books whose loads change."""

import unittest
from random import Random

from fewcarry.books.book import Book
from fewcarry.books.load import Load
from fewcarry.certificates.claim import Claim
from fewcarry.certificates.judging import judge
from fewcarry.exact.errors import BadFactor, BadQ, BadShape, NoLabel, TooHeavy, TooMany, TwinLabel
from fewcarry.exact.ratio import Ratio
from fewcarry.streams.watch import Watch
from fewcarry.thins.bars import Bars
from fewcarry.thins.fewest import Few, fewest
from tests.support import failure, load, random_books, ratio, ratios

ONE = Ratio(1)
TWO = Ratio(2)
NINE = Ratio(9)
FINE = ratio("13/12")
COARSE = ratio("5/4")


def loads_of(many, width=3, seed=71, letter="l"):
    random = Random(seed)
    return [Load("%s%d" % (letter, k), Ratio(random.randint(1, 9), random.randint(1, 5)),
                 [random.randint(-3, 3) for _ in range(width)]) for k in range(many)]


def heavy_loads(many):
    return [load("h%d" % k, "1", *[(k * j + j * j + k // 12) % 13 for j in range(12)]) for k in range(many)]


def seen(watch):
    """All that can be seen of a watch."""
    few = watch.summary()
    return (watch.whole.text(), watch.q.text(), watch.limit.text(), watch.rebuilds,
            few.book.text(), few.factor.text())


def fresh(book, q, limit="1000"):
    return Watch(book, q, ratio(limit))


class WatchTest(unittest.TestCase):
    def summary(self, watch, few):
        got = watch.summary()
        self.assertIs(type(got), Few)
        self.assertEqual((got.book, got.factor), (few.book, few.factor))

    def refuses(self, watch, wanted, call, *given):
        before = seen(watch)
        self.assertEqual(failure(call, *given), wanted)
        self.assertEqual(seen(watch), before)

    def carries(self, watch):
        few = watch.summary()
        judge(Claim.of(few, watch.whole))
        self.assertLessEqual(few.factor.compare(watch.limit), 0)
        for item in few.book:
            self.assertEqual(watch.whole.load(item.label).numbers, item.numbers)


class Made(WatchTest):
    def test_fields(self):
        for q, limit in ((TWO, "9"), (COARSE, "81"), (FINE, "1000")):
            book = Book(3, loads_of(8))
            watch = Watch(book, q, ratio(limit))
            self.assertEqual((watch.whole, watch.q, watch.limit, watch.rebuilds), (book, q, ratio(limit), 0))
            self.summary(watch, fewest(book, q))

    def test_errors(self):
        heavy = Book(12, heavy_loads(60))
        for q in ratios("1", "49/12", "14/13", "0"):
            self.assertEqual(failure(Watch, heavy, q, ONE), (BadQ, {"q": q}))
        for q, limit in ((TWO, ratio("899/100")), (TWO, Ratio(0)), (Ratio(4), ratio("8/3")), (FINE, Ratio(624)),
                         (COARSE, Ratio(80))):
            self.assertEqual(failure(Watch, heavy, q, limit), (BadFactor, {"factor": limit}))
        self.assertEqual(failure(Watch, heavy, Ratio(4), Ratio(25, 9)), (TooHeavy, {"work": 60 * 78 * 78}))
        # The bound does not depend on the rank.
        for book in (Book(2, []), Book(3, loads_of(8))):
            self.assertEqual(Watch(book, TWO, NINE).limit, Bars(TWO, 5).bound)


class Put(WatchTest):
    def test_put(self):
        for q in (TWO, COARSE):
            loads = loads_of(9)
            watch = fresh(Book(3, loads[:6]), q)
            few = watch.summary()
            for k, item in enumerate(loads[6:]):
                self.assertIs(watch.put(item), None)
                self.assertEqual(watch.whole, Book(3, loads[:7 + k]))
                self.summary(watch, Few(Book(3, [*few.book, *loads[6:7 + k]]), few.factor))
                self.assertEqual(watch.rebuilds, 0)
                self.carries(watch)

    def test_in_place(self):
        loads = loads_of(4)
        watch, other = fresh(Book(3, loads[:2]), COARSE), fresh(Book(3, loads[:2]), COARSE)
        same = watch
        for item in loads[2:]:
            watch += item
            other.put(item)
        self.assertIs(watch, same)
        self.assertEqual(seen(watch), seen(other))
        before = seen(watch)
        for item, error in ((load("x", "1", 1), BadShape), (loads[0], TwinLabel)):
            with self.assertRaises(error):
                watch += item
            self.assertIs(watch, same)
            self.assertEqual(seen(watch), before)

    def test_errors(self):
        full = fresh(Book(1, [load("a%d" % k, "1", 1) for k in range(200)]), TWO)
        self.refuses(full, (BadShape, {}), full.put, load("a0", "1", 1, 2))
        self.refuses(full, (TwinLabel, {"label": "a7"}), full.put, load("a7", "1", 3))
        self.refuses(full, (TooMany, {"most": 200}), full.put, load("b", "1", 3))
        # Most of the loads are not in the summary, but that of the whole counts.
        self.assertEqual(len(full.summary().book), 1)
        full.drop("a3")
        full.put(load("b", "1", 3))
        self.assertEqual(len(full.whole), 200)


class Drop(WatchTest):
    def test_pull_of_1(self):
        # Without b the rank is less, and it has a greater weight in the summary than in the whole.
        book = Book.read("book 2\na 1: 1 0\nc 1: 2 0\nb 1: 0 1")
        watch = fresh(book, COARSE)
        watch.put(load("d", "1", 1, 0))
        factor = watch.summary().factor
        self.assertIs(watch.drop("b"), None)
        self.assertEqual((watch.summary().factor, watch.rebuilds), (factor, 0))
        self.assertEqual(watch.whole, Book.read("book 2\na 1: 1 0\nc 1: 2 0\nd 1: 1 0"))
        self.assertFalse("b" in watch.summary().book)
        self.carries(watch)

    def test_pull_of_1_in_a_thinned_book(self):
        alone = load("z", "1/3", 0, 0, 0, 1)
        book = Book(4, [Load(item.label, item.weight, [*item.numbers, 0]) for item in loads_of(9)] + [alone])
        watch = fresh(book, FINE)
        few = watch.summary()
        self.assertGreater(few.factor.compare(ONE), 0)
        self.assertGreater(few.book.load("z").weight.compare(alone.weight), 0)
        watch.drop("z")
        self.summary(watch, Few(few.book.without("z"), few.factor))
        self.assertEqual(watch.rebuilds, 0)
        self.carries(watch)

    def test_equal_weights(self):
        # With the factor 1 and equal weights nothing is lost.
        book = Book.read("book 2\na 1: 1 0\nb 2: 0 1\nc 1: 1 1")
        watch = fresh(book, TWO)
        self.assertEqual(watch.summary().book, book)
        watch.drop("c")
        self.assertEqual((watch.whole, watch.rebuilds), (book.without("c"), 0))
        self.summary(watch, Few(book.without("c"), ONE))

    def test_lower_weight(self):
        # The second load of the line goes to the first one, so the summary has it not.
        watch = fresh(Book.read("book 1\na 1: 1\nb 1: 1\nc 2: 1"), TWO)
        self.assertEqual(watch.summary().book.text(), "book 1\na 4: 1")
        # The pull is 1/4, so the factor becomes 1 + 1 * (1/4) / (3/4), and then 4/3 + 4/3 * (2/3) / (1/3).
        watch.drop("b")
        self.assertEqual((watch.summary().factor, watch.rebuilds), (Ratio(4, 3), 0))
        self.assertEqual(watch.summary().book.text(), "book 1\na 4: 1")
        self.assertEqual(watch.whole.text(), "book 1\na 1: 1\nc 2: 1")
        watch.drop("c")
        self.assertEqual((watch.summary().factor, watch.rebuilds), (Ratio(4), 0))
        self.carries(watch)

    def test_higher_weight(self):
        book = Book.read("book 1\na 1: 1\nb 1: 1\nc 2: 1")
        watch = fresh(book, TWO)
        watch.drop("a")
        self.assertEqual((watch.whole, watch.rebuilds), (book.without("a"), 1))
        self.summary(watch, fewest(book.without("a"), TWO))
        watch.put(load("d", "1", 3))
        watch.drop("b")
        self.assertEqual(watch.rebuilds, 2)
        self.summary(watch, fewest(watch.whole, TWO))

    def test_limit(self):
        # The factor becomes 1 + h / (1 - h) for the pull h = w / 9, the load not being in the summary.
        for weight, limit, rebuilds in (("8", "9", 0), ("8", "10", 0), ("81/10", "9", 1), ("81/10", "10", 0),
                                        ("811/100", "10", 1)):
            first = Ratio(9) - ratio(weight)
            book = Book(1, [Load("a", first, [1]), load("b", weight, 1)])
            watch = Watch(book, TWO, ratio(limit))
            self.assertFalse("b" in watch.summary().book)
            watch.drop("b")
            self.assertEqual(watch.rebuilds, rebuilds)
            self.assertEqual(watch.whole, book.without("b"))
            factor = ONE if rebuilds else Ratio(9).divided(first)
            self.assertEqual(watch.summary().factor, factor)
            self.carries(watch)

    def test_no_energy(self):
        watch = fresh(Book(1, [load("a", "1", 1), load("z", "1", 0)]), TWO)
        watch.put(load("y", "2", 0))
        watch.drop("z")
        watch.drop("y")
        self.assertEqual((watch.summary().factor, watch.rebuilds, watch.whole.text()), (ONE, 0, "book 1\na 1: 1"))
        watch.drop("a")
        self.assertEqual((watch.whole, watch.summary().book, watch.rebuilds), (Book(1, []), Book(1, []), 0))

    def test_by_definition(self):
        counts = {"stays": 0, "grows": 0, "limit": 0, "heavier": 0}
        random = Random(72)
        for book in random_books(72, 40, 3, most_loads=12) + [Book(3, loads_of(14, seed=k)) for k in range(10)]:
            watch = Watch(book, COARSE, Ratio(random.choice((81, 100, 3000))))
            for item in random.sample(list(book), len(book)):
                whole, few, rebuilds = watch.whole, watch.summary(), watch.rebuilds
                h, w, c = whole.pull(item.label), item.weight, few.factor
                s = few.book.load(item.label).weight if item.label in few.book else Ratio(0)
                if h == ONE:
                    factor, case = c, "stays"
                elif s.compare(w) > 0:
                    factor, case = None, "heavier"
                else:
                    factor, case = c + ((c - s.divided(w)) * h).divided(ONE - h), "grows"
                    if factor.compare(watch.limit) > 0:
                        factor, case = None, "limit"
                counts[case] += 1
                self.assertIs(watch.drop(item.label), None)
                rest = whole.without(item.label)
                self.assertEqual(watch.whole, rest)
                if factor is None:
                    self.assertEqual(watch.rebuilds, rebuilds + 1)
                    self.summary(watch, fewest(rest, COARSE))
                else:
                    self.assertEqual(watch.rebuilds, rebuilds)
                    kept = few.book.without(item.label) if item.label in few.book else few.book
                    self.summary(watch, Few(kept, factor))
                self.carries(watch)
        self.assertTrue(all(counts.values()), counts)

    def test_in_place(self):
        watch = fresh(Book(3, loads_of(6)), COARSE)
        other, same = watch.twin(), watch
        watch -= "l3"
        other.drop("l3")
        self.assertIs(watch, same)
        self.assertEqual(seen(watch), seen(other))
        with self.assertRaises(NoLabel):
            watch -= "l3"
        self.assertIs(watch, same)
        self.assertEqual(seen(watch), seen(other))

    def test_no_label(self):
        watch = fresh(Book(3, loads_of(6)), COARSE)
        for label in ("q", "", "L1", "aaaaaaaaaa"):
            self.refuses(watch, (NoLabel, {"label": label}), watch.drop, label)


class Rebuild(WatchTest):
    def test_rebuild(self):
        loads = loads_of(12)
        watch = fresh(Book(3, loads[:4]), COARSE)
        for item in loads[4:]:
            watch.put(item)
        for k in range(3):
            self.assertIs(watch.rebuild(), None)
            self.assertEqual((watch.rebuilds, watch.whole), (k + 1, Book(3, loads)))
            self.summary(watch, fewest(Book(3, loads), COARSE))

    def test_too_heavy(self):
        loads = heavy_loads(60)
        watch = Watch(Book(12, loads[:45]), Ratio(4), NINE)
        for item in loads[45:]:
            watch.put(item)
        work = (TooHeavy, {"work": 60 * 78 * 78})
        self.refuses(watch, work, watch.rebuild)
        # The factor is 1, so a lower limit asks for no rebuilding.
        watch.restrict(Ratio(25, 9))
        self.assertEqual(watch.limit, Ratio(25, 9))

    def test_too_heavy_in_all_that_rebuilds(self):
        unit = [1] + [0] * 11
        watch = Watch(Book(12, [load("a", "1", *unit), load("b", "9", *unit)]), Ratio(4), Ratio(1000))
        watch.drop("b")
        self.assertEqual((watch.summary().factor, watch.summary().book.load("a").weight), (Ratio(10), Ratio(10)))
        for item in heavy_loads(60):
            watch.put(item)
        self.refuses(watch, (TooHeavy, {"work": 60 * 78 * 78}), watch.drop, "a")
        work = (TooHeavy, {"work": 61 * 78 * 78})
        low = Ratio(25, 9)
        self.refuses(watch, work, watch.restrict, low)
        self.refuses(watch, work, setattr, watch, "limit", low)
        other = Watch(Book(12, [load("c", "1", *unit)]), Ratio(4), Ratio(1000))
        other.take(watch)
        self.assertEqual((other.rebuilds, other.summary().factor), (0, Ratio(10)))
        small = Watch(Book(12, [load("c", "1", *unit)]), Ratio(4), low)
        self.refuses(small, (TooHeavy, {"work": 62 * 78 * 78}), small.take, watch)


class Limit(WatchTest):
    def grown(self):
        """A watch with the factor 10."""
        watch = fresh(Book.read("book 1\na 1: 1\nb 9: 1"), TWO)
        watch.drop("b")
        self.assertEqual((watch.summary().factor, watch.rebuilds), (Ratio(10), 0))
        return watch

    def test_restrict_and_assign(self):
        def assign(watch, limit):
            watch.limit = limit

        def restrict(watch, limit):
            self.assertIs(watch.restrict(limit), None)

        for change in (assign, restrict):
            watch = self.grown()
            change(watch, Ratio(2000))
            self.assertEqual((watch.limit, watch.rebuilds), (Ratio(2000), 0))
            change(watch, Ratio(10))
            self.assertEqual((watch.limit, watch.rebuilds, watch.summary().factor), (Ratio(10), 0, Ratio(10)))
            change(watch, ratio("99/10"))
            self.assertEqual((watch.limit, watch.rebuilds), (ratio("99/10"), 1))
            self.summary(watch, fewest(watch.whole, TWO))
            change(watch, NINE)
            self.assertEqual((watch.limit, watch.rebuilds), (NINE, 1))

    def test_errors(self):
        watch = self.grown()
        for limit in ratios("899/100", "0", "-9", "1"):
            self.refuses(watch, (BadFactor, {"factor": limit}), watch.restrict, limit)
            self.refuses(watch, (BadFactor, {"factor": limit}), setattr, watch, "limit", limit)


class Take(WatchTest):
    def test_take(self):
        for q in (TWO, COARSE, FINE):
            one, two = fresh(Book(3, loads_of(7)), q), fresh(Book(3, loads_of(9, seed=5, letter="m")), COARSE)
            two.put(load("n", "1", 1, 1, 1))
            few, more, before = one.summary(), two.summary(), seen(two)
            self.assertIs(one.take(two), None)
            self.assertEqual(one.whole, Book(3, loads_of(7)) + two.whole)
            factor = few.factor if few.factor.compare(more.factor) > 0 else more.factor
            self.summary(one, Few(few.book + more.book, factor))
            self.assertEqual((one.rebuilds, one.q, seen(two)), (0, q, before))
            self.carries(one)

    def test_limit(self):
        # The factor of the other one is 10.
        other = fresh(Book.read("book 1\na 1: 1\nb 9: 1"), TWO)
        other.drop("b")
        for limit, rebuilds in (("10", 0), ("99/10", 1), ("9", 1)):
            watch = Watch(Book.read("book 1\nc 3: 1"), TWO, ratio(limit))
            watch.take(other)
            self.assertEqual((watch.rebuilds, watch.whole.text()), (rebuilds, "book 1\nc 3: 1\na 1: 1"))
            if rebuilds:
                self.summary(watch, fewest(watch.whole, TWO))
            else:
                self.assertEqual((watch.summary().factor, watch.summary().book.text()),
                                 (Ratio(10), "book 1\nc 3: 1\na 10: 1"))

    def test_later_changes_are_apart(self):
        one, two = fresh(Book(3, loads_of(4)), TWO), fresh(Book(3, loads_of(4, seed=5, letter="m")), TWO)
        one.take(two)
        before = seen(two)
        one.drop("m1")
        self.assertEqual(seen(two), before)
        before = seen(one)
        two.drop("m2")
        self.assertEqual(seen(one), before)

    def test_errors(self):
        watch = fresh(Book(3, loads_of(150)), TWO)
        wide = fresh(Book(4, loads_of(100, 4)), TWO)
        self.refuses(watch, (BadShape, {}), watch.take, wide)
        self.refuses(watch, (TooMany, {"most": 200}), watch.take, fresh(Book(3, loads_of(51)), TWO))
        other = fresh(Book(3, [load("x", "1", 1, 0, 0), load("l7", "1", 1, 0, 0), load("l3", "1", 1, 0, 0)]), TWO)
        self.refuses(watch, (TwinLabel, {"label": "l7"}), watch.take, other)
        self.refuses(watch, (TooMany, {"most": 200}), watch.take, watch)
        small = fresh(Book(3, loads_of(3)), TWO)
        self.refuses(small, (TwinLabel, {"label": "l0"}), small.take, small)
        empty = fresh(Book(3, []), TWO)
        empty.take(empty)
        self.assertEqual(empty.whole, Book(3, []))
        fresh(Book(3, loads_of(50, letter="m")), TWO).take(watch)


class Twin(WatchTest):
    def test_twin(self):
        watch = fresh(Book(3, loads_of(9)), COARSE)
        watch.put(load("x", "1", 1, 1, 1))
        watch.rebuild()
        watch.put(load("y", "1", 1, 1, 1))
        twin = watch.twin()
        self.assertIs(type(twin), Watch)
        before = seen(watch)
        self.assertEqual(seen(twin), before)
        twin.put(load("z", "1", 1, 1, 1))
        twin.drop("l2")
        twin.rebuild()
        twin.limit = Ratio(500)
        self.assertEqual(seen(watch), before)
        after = seen(twin)
        watch.drop("x")
        watch.restrict(Ratio(400))
        self.assertEqual(seen(twin), after)

    def test_same_from_here_on(self):
        watch = Watch(Book(3, loads_of(12)), COARSE, Ratio(90))
        watch.put(load("x", "1", 1, 1, 1))
        twin = watch.twin()
        for label in ("l3", "x", "l5", "l1", "l0"):
            watch.drop(label)
            twin.drop(label)
            self.assertEqual(seen(watch), seen(twin))

    def test_too_heavy(self):
        watch = Watch(Book(12, heavy_loads(40)), Ratio(4), NINE)
        for k in range(20):
            watch.put(load("x%d" % k, "1", *range(12)))
        self.assertEqual(seen(watch.twin()), seen(watch))


class Always(WatchTest):
    def test_carries(self):
        random = Random(710)
        for q, limit in ((COARSE, "81"), (COARSE, "120"), (TWO, "9"), (FINE, "700")):
            watch = Watch(Book(3, loads_of(6)), q, ratio(limit))
            for k in range(60):
                choice = random.random()
                labels = [item.label for item in watch.whole]
                if choice < 0.45 or not labels:
                    watch.put(Load("n%d" % k, Ratio(random.randint(1, 9), random.randint(1, 4)),
                                   [random.randint(-2, 2) for _ in range(3)]))
                elif choice < 0.9:
                    watch.drop(random.choice(labels))
                elif choice < 0.95:
                    watch.rebuild()
                else:
                    watch.take(fresh(Book(3, loads_of(3, seed=k, letter="t%dx" % k)), q))
                self.carries(watch)


if __name__ == "__main__":
    unittest.main()
