"""Points 72, 73 and 77: the desk, the deeds on it, and the report."""

import unittest

from fewcarry.books.book import Book
from fewcarry.desk.desk import Desk
from fewcarry.exact.errors import (
    BadDeed, BadFactor, BadQ, BadShape, BadWeight, Loop, NoLabel, NoName, NoNode, OutOfBounds, TooHeavy, TooMany,
    TwinLabel, TwinName, TwinNode, WrongKind,
)
from fewcarry.exact.ratio import Ratio
from fewcarry.nets.net import Net
from fewcarry.streams.watch import Watch
from fewcarry.thins.fewest import Few
from tests.support import failure, load, ratio

SMALL = ("book a 2 2 9", "put a x 1 1 0", "put a y 1/2 0 1", "put a z 3 1 -1", "net n 2 9 u v w", "tie n e u v 1",
         "tie n f v w 2/3", "tie n g u v 5", "book b 2 5/4 100", "put b w 2 1 1")


def desk_of(*deeds):
    desk = Desk()
    for deed in deeds:
        desk.do(deed)
    return desk


def seen(desk):
    """All that can be seen of a desk, but for what could be done again."""
    things = []
    for name in desk.names():
        few = desk.summary_of(name)
        things.append((name, desk.kind_of(name), desk.book_of(name).text(), few.book.text(), few.factor.text()))
        if desk.kind_of(name) == "net":
            things.append(desk.net_of(name).text())
    return things, desk.deeds(), desk.report()


def heavy_deeds(name, many):
    """Loads of rank 12, of which 50 are too many to be thinned with 4."""
    rows = [[(k * j + j * j + k // 12) % 13 for j in range(12)] for k in range(many)]
    return ["put %s h%d 1 %s" % (name, k, " ".join(map(str, row))) for k, row in enumerate(rows)]


class DeskTest(unittest.TestCase):
    def refuses(self, desk, deed, wanted):
        before = seen(desk)
        self.assertEqual(failure(desk.do, deed), wanted, deed)
        self.assertEqual(seen(desk), before)

    def follows(self, desk, name, watch):
        """What is held under the name is what the watch has."""
        self.assertEqual(desk.book_of(name), watch.whole)
        few, wanted = desk.summary_of(name), watch.summary()
        self.assertIs(type(few), Few)
        self.assertEqual((few.book, few.factor), (wanted.book, wanted.factor))


class Made(DeskTest):
    def test_empty(self):
        desk = Desk()
        self.assertEqual((desk.names(), desk.deeds(), desk.report()), ([], [], ""))

    def test_book(self):
        desk = Desk()
        self.assertIs(desk.do("book a 3 2 9"), None)
        self.assertEqual((desk.names(), desk.kind_of("a"), desk.book_of("a")), (["a"], "book", Book(3, [])))
        self.follows(desk, "a", Watch(Book(3, []), Ratio(2), Ratio(9)))
        for width in (1, 12):
            desk.do("book w%d %d 13/12 2000/3" % (width, width))
            self.assertEqual(desk.book_of("w%d" % width).width, width)

    def test_net(self):
        desk = desk_of("net n 2 9 u v w", "net 5 3/2 25 5")
        self.assertEqual((desk.names(), desk.kind_of("n")), (["n", "5"], "net"))
        self.assertEqual(desk.net_of("n"), Net.read("nodes u v w"))
        self.assertEqual((desk.book_of("n"), desk.net_of("5").nodes), (Book(3, []), ("5",)))

    def test_errors_of_books(self):
        desk = desk_of(*SMALL)
        for name in ("a", "n"):
            self.refuses(desk, "book %s 0 1 0" % name, (TwinName, {"name": name}))
            self.refuses(desk, "net %s 1 0 u u" % name, (TwinName, {"name": name}))
        for width in (0, 13, 10 ** 1999):
            self.refuses(desk, "book c %d 1 0" % width, (OutOfBounds, {"value": width}))
        for q in ("1", "49/12", "14/13", "-2"):
            self.refuses(desk, "book c 3 %s 0" % q, (BadQ, {"q": ratio(q)}))
        for limit in ("0", "-9", "899/100"):
            self.refuses(desk, "book c 3 2 %s" % limit, (BadFactor, {"factor": ratio(limit)}))

    def test_errors_of_nets(self):
        desk = desk_of(*SMALL)
        self.refuses(desk, "net c 1 0 " + " ".join("n%d" % k for k in range(13)), (BadShape, {}))
        self.refuses(desk, "net c 1 0 " + "u " * 12 + "u", (BadShape, {}))
        self.refuses(desk, "net c 1 0 u v u v", (TwinNode, {"node": "u"}))
        self.refuses(desk, "net c 1 0 u v", (BadQ, {"q": Ratio(1)}))
        self.refuses(desk, "net c 2 8 u v", (BadFactor, {"factor": Ratio(8)}))
        desk.do("net c 2 9 " + " ".join("n%d" % k for k in range(12)))


class Loads(DeskTest):
    def test_put(self):
        desk = desk_of("book a 2 2 9")
        watch = Watch(Book(2, []), Ratio(2), Ratio(9))
        for label, weight, numbers in (("x", "1", (1, 0)), ("a", "3/2", (0, -9999)), ("12345678", "10", (9999, 4))):
            self.assertIs(desk.do("put a %s %s %s" % (label, weight, " ".join(map(str, numbers)))), None)
            watch.put(load(label, weight, *numbers))
            self.follows(desk, "a", watch)

    def test_errors_of_put(self):
        desk = desk_of(*SMALL)
        self.refuses(desk, "put q x 0 1", (NoName, {"name": "q"}))
        self.refuses(desk, "put n x 0 1", (WrongKind, {"name": "n"}))
        for weight in ("0", "-1", "-1/2"):
            self.refuses(desk, "put a x %s 1" % weight, (BadWeight, {"label": "x"}))
        self.refuses(desk, "put a x 1 " + " ".join(["10000"] * 13), (BadShape, {}))
        self.refuses(desk, "put a x 1 10000 -10001", (OutOfBounds, {"value": 10000}))
        self.refuses(desk, "put a x 1 0 -10001", (OutOfBounds, {"value": -10001}))
        self.refuses(desk, "put a x 1 1", (BadShape, {}))
        self.refuses(desk, "put a x 1 1 2 3", (BadShape, {}))
        self.refuses(desk, "put a x 1 1 2", (TwinLabel, {"label": "x"}))
        full = desk_of("book a 1 2 9", *["put a l%d 1 1" % k for k in range(200)])
        self.refuses(full, "put a l7 1 1", (TwinLabel, {"label": "l7"}))
        self.refuses(full, "put a m 1 1", (TooMany, {"most": 200}))

    def test_tie(self):
        desk = desk_of("net n 2 9 u v w")
        net = Net.read("nodes u v w\ne u v 1\nf w v 2/3\ng u v 5")
        watch = Watch(Book(3, []), Ratio(2), Ratio(9))
        for item, as_load in zip(net, net.as_book()):
            words = "tie", "n", item.label, item.first, item.second, item.strength.text()
            self.assertIs(desk.do(" ".join(words)), None)
            watch.put(as_load)
            self.follows(desk, "n", watch)
            self.assertEqual(desk.net_of("n").as_book(), desk.book_of("n"))
        self.assertEqual(desk.net_of("n"), net)

    def test_errors_of_tie(self):
        desk = desk_of(*SMALL)
        self.refuses(desk, "tie q e q q 0", (NoName, {"name": "q"}))
        self.refuses(desk, "tie a e q q 0", (WrongKind, {"name": "a"}))
        self.refuses(desk, "tie n e q q 0", (Loop, {"label": "e"}))
        for weight in ("0", "-1/3"):
            self.refuses(desk, "tie n e q r %s" % weight, (BadWeight, {"label": "e"}))
        self.refuses(desk, "tie n e q r 1", (NoNode, {"node": "q"}))
        self.refuses(desk, "tie n e u r 1", (NoNode, {"node": "r"}))
        self.refuses(desk, "tie n e u w 1", (TwinLabel, {"label": "e"}))
        full = desk_of("net n 2 9 u v", *["tie n l%d u v 1" % k for k in range(200)])
        self.refuses(full, "tie n l7 u v 1", (TwinLabel, {"label": "l7"}))
        self.refuses(full, "tie n m v u 1", (TooMany, {"most": 200}))

    def test_drop(self):
        desk = desk_of(*SMALL)
        book, net = desk.book_of("a"), desk.net_of("n")
        for name, label in (("a", "y"), ("n", "e"), ("n", "f"), ("a", "x")):
            self.assertIs(desk.do("drop %s %s" % (name, label)), None)
            self.assertFalse(label in desk.book_of(name))
            self.refuses(desk, "drop %s %s" % (name, label), (NoLabel, {"label": label}))
        self.assertEqual(desk.book_of("a"), book.without("y").without("x"))
        self.assertEqual(desk.net_of("n"), net.without("e").without("f"))
        self.assertEqual(desk.book_of("n"), desk.net_of("n").as_book())
        self.refuses(desk, "drop q x", (NoName, {"name": "q"}))

    def test_drop_follows_the_watch(self):
        desk = desk_of("book a 1 2 1000", "put a x 1 1", "put a y 9 1", "thin a")
        watch = Watch(Book.read("book 1\nx 1: 1\ny 9: 1"), Ratio(2), Ratio(1000))
        self.follows(desk, "a", watch)
        desk.do("drop a y")
        watch.drop("y")
        self.assertEqual(watch.summary().factor, Ratio(10))
        self.follows(desk, "a", watch)
        desk.do("put a z 1 1")
        desk.do("drop a x")
        watch.put(load("z", "1", 1))
        watch.drop("x")
        self.assertEqual(watch.rebuilds, 1)
        self.follows(desk, "a", watch)


class Watched(DeskTest):
    def grown(self):
        """A desk with a book and a net that have the factor 10."""
        return desk_of("book a 1 2 1000", "put a x 1 1", "put a y 9 1", "thin a", "drop a y",
                       "net n 2 1000 u v", "tie n x u v 1", "tie n y u v 9", "thin n", "drop n y")

    def test_thin(self):
        desk = self.grown()
        for name in ("a", "n"):
            self.assertEqual(desk.summary_of(name).factor, Ratio(10))
            self.assertIs(desk.do("thin " + name), None)
            self.follows(desk, name, Watch(desk.book_of(name), Ratio(2), Ratio(1000)))
        self.refuses(desk, "thin q", (NoName, {"name": "q"}))

    def test_limit(self):
        desk = self.grown()
        for name in ("a", "n"):
            self.assertIs(desk.do("limit %s 10" % name), None)
            self.assertEqual(desk.summary_of(name).factor, Ratio(10))
            desk.do("limit %s 99/10" % name)
            self.follows(desk, name, Watch(desk.book_of(name), Ratio(2), Ratio(9)))
            for limit in ("0", "-1", "899/100"):
                self.refuses(desk, "limit %s %s" % (name, limit), (BadFactor, {"factor": ratio(limit)}))
        self.refuses(desk, "limit q 0", (NoName, {"name": "q"}))

    def test_limit_holds_from_then_on(self):
        desk = desk_of("book a 1 2 1000", "limit a 9", "put a x 1 1", "put a y 9 1", "thin a", "drop a y")
        self.assertEqual(desk.summary_of("a").factor, Ratio(1))

    def test_too_heavy(self):
        desk = desk_of("book a 12 4 1000", "put a x 1" + " 1" * 12, "put a y 9" + " 1" * 12, "thin a", "drop a y",
                       *heavy_deeds("a", 60), "book b 12 4 3", "put b z 1" + " 1" * 12)
        work = 78 * 78
        for deed, many in (("thin a", 61), ("limit a 3", 61), ("drop a x", 60), ("merge b a", 62)):
            self.refuses(desk, deed, (TooHeavy, {"work": many * work}))
        desk.do("merge a b")

    def test_merge(self):
        desk = desk_of(*SMALL, "book c 2 3 4", "put c k 1 5 5", "put c l 1 5 5", "thin c")
        one = Watch(Book(2, []), Ratio(2), Ratio(9))
        for item in desk.book_of("a"):
            one.put(item)
        other = Watch(desk.book_of("c"), Ratio(3), Ratio(4))
        one.take(other)
        self.assertIs(desk.do("merge a c"), None)
        self.assertEqual(desk.names(), ["a", "n", "b"])
        self.follows(desk, "a", one)
        self.assertEqual(failure(desk.book_of, "c"), (NoName, {"name": "c"}))
        # The parameter and the limit are those of the first.
        desk.do("thin a")
        one.rebuild()
        self.follows(desk, "a", one)
        self.refuses(desk, "limit a 8", (BadFactor, {"factor": Ratio(8)}))

    def test_errors_of_merge(self):
        desk = desk_of(*SMALL, "book c 3 2 9", "book d 2 2 9", "put d q 1 1 1", "put d z 1 1 1", "put d x 1 1 1",
                       "net m 2 9 u v")
        for name, other, wrong in (("q", "r", "q"), ("a", "q", "q"), ("n", "q", "q"), ("q", "n", "q")):
            self.refuses(desk, "merge %s %s" % (name, other), (NoName, {"name": wrong}))
        for name, other, wrong in (("n", "a", "n"), ("n", "m", "n"), ("n", "n", "n"), ("a", "n", "n"), ("a", "a", "a")):
            self.refuses(desk, "merge %s %s" % (name, other), (WrongKind, {"name": wrong}))
        self.refuses(desk, "merge a c", (BadShape, {}))
        self.refuses(desk, "merge a d", (TwinLabel, {"label": "z"}))
        full = desk_of("book a 1 2 9", *["put a l%d 1 1" % k for k in range(101)],
                       "book b 1 2 9", *["put b l%d 1 1" % k for k in range(100)])
        self.refuses(full, "merge a b", (TooMany, {"most": 200}))

    def test_forget(self):
        desk = desk_of(*SMALL)
        for name, left in (("n", ["a", "b"]), ("a", ["b"]), ("b", [])):
            self.assertIs(desk.do("forget " + name), None)
            self.assertEqual(desk.names(), left)
            self.refuses(desk, "forget " + name, (NoName, {"name": name}))


class Forms(DeskTest):
    def test_no_deeds(self):
        desk = desk_of(*SMALL)
        number = "1" + "0" * 1999
        for deed in (
                "", " ", "a", "Book c 2 2 9", "book", "book c", "book c 2", "book c 2 2", "book c 2 2 9 1",
                "book C 2 2 9", "book ccccccccc 2 2 9", "book c -2 2 9", "book c 02 2 9", "book c -0 2 9",
                "book c +2 2 9",
                "book c 2 4/2 9", "book c 2 2 9/1", "book c 2 2.5 9", "book c 2 2 09", "book  c 2 2 9", " book c 2 2 9",
                "book c 2 2 9 ", "book c 2 2 9\n", "book c 2 2\n9", "book\tc 2 2 9", "book c 1/2 2 9",
                "book c %s0 2 9" % number,
                "net", "net c", "net c 2", "net c 2 9", "net c 2 9 U", "net c 2 9 u ", "net c 2 9 u  v",
                "net c 2 9 u v-w",
                "net c 4/2 9 u v", "net c 2 9 aaaaaaaaa",
                "put", "put a", "put a p", "put a p 1", "put a p 1 ", "put a p 1 1 -0", "put a p 1 1 01",
                "put a p 1 1 1/2",
                "put a p 1 1 x", "put a P 1 1 1", "put A p 1 1 1", "put a p 2/2 1 1", "put a p +1 1 1",
                "put a p 1 1 2 ",
                "put a p 1 1 %s0" % number, "put a p 1 1 -%s0" % number, "put a p %s0 1 1" % number,
                "tie n h u v", "tie n h u v 1 1", "tie n h u V 1", "tie n h u 1", "tie n H u v 1", "tie n h u v 2/4",
                "tie N h u v 1", "tie n h u  1", "drop", "drop a", "drop a x y", "drop a X", "drop A x", "drop a ",
                "thin", "thin A", "thin a b", "thin ", "limit a", "limit a 9/3", "limit a 9 9", "limit A 9",
                "limit a x",
                "merge a", "merge a b c", "merge A b", "merge a B", "forget", "forget A", "forget a b", "forget a ",
                "undo 1", "undo ", " undo", "Undo", "redo a", "redo\n", "redo ", "undo redo", "swap a b", "names",
                # A name that is not held, or is taken, is looked at later.
                "put q Q 1 1", "merge q Q", "book a 2 2", "tie a e u v x"):
            self.refuses(desk, deed, (BadDeed, {"deed": deed}))

    def test_long_numbers(self):
        desk = desk_of("book a 1 2 9")
        number = "1" + "0" * 1999
        self.refuses(desk, "put a x 1 " + number, (OutOfBounds, {"value": 10 ** 1999}))
        self.refuses(desk, "put a x 1 -" + number, (OutOfBounds, {"value": -10 ** 1999}))
        desk.do("put a x %s 1" % number)
        self.assertEqual(desk.book_of("a").load("x").weight, Ratio(10 ** 1999))

    def test_names_that_are_words_of_deeds(self):
        desk = desk_of("book book 1 2 9", "put book put 1 1", "net net 2 9 undo redo", "tie net tie undo redo 1",
                       "book undo 1 2 9", "merge book undo", "thin net", "forget net")
        self.assertEqual(desk.names(), ["book"])


class Asked(DeskTest):
    def test_names_and_kinds(self):
        desk = desk_of(*SMALL)
        self.assertEqual(desk.names(), ["a", "n", "b"])
        self.assertEqual([desk.kind_of(name) for name in desk.names()], ["book", "net", "book"])
        desk.do("forget a")
        desk.do("book a 1 2 9")
        self.assertEqual(desk.names(), ["n", "b", "a"])

    def test_no_name(self):
        desk = desk_of(*SMALL)
        for call in (desk.kind_of, desk.book_of, desk.net_of, desk.summary_of):
            for name in ("q", "", "A", "aaaaaaaaaa", "a ", "x"):
                self.assertEqual(failure(call, name), (NoName, {"name": name}))
        for name in ("a", "b"):
            self.assertEqual(failure(desk.net_of, name), (WrongKind, {"name": name}))

    def test_lists_are_new(self):
        desk = desk_of(*SMALL)
        desk.names().append("q")
        desk.deeds().clear()
        self.assertEqual((desk.names(), desk.deeds()), (["a", "n", "b"], list(SMALL)))

    def test_report(self):
        desk = desk_of(*SMALL, "book longname 1 2 1000", *["put longname l%d 1 1" % k for k in range(150)],
                       "thin longname", "drop longname l7", "net m 2 9 u")
        self.assertEqual(desk.report().split("\n"), [
            "a        book     3     3 1",
            "n        net      3     3 1",
            "b        book     1     1 1",
            "longname book   149     1 150/149",
            "m        net      0     0 1",
        ])
        self.assertEqual(desk_of("net n 2 9 u").report(), "n        net      0     0 1")


if __name__ == "__main__":
    unittest.main()
