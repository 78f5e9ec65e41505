"""Points 47 and 48: lines, nets, and their books."""

import unittest

from fewcarry.books.book import Book
from fewcarry.exact.errors import (
    BadLabel, BadNode, BadShape, BadWeight, Loop, NoLabel, NoNode, TooMany, TwinLabel, TwinNode,
)
from fewcarry.exact.ratio import Ratio
from fewcarry.nets.line import Line
from fewcarry.nets.net import Net
from tests.support import directions, failure, fraction, random_nets, ratio, ratios

ONE = Ratio(1)
NODES = ["a", "b", "c"]
BAD_TEXTS = ("", "A", "a b", "aaaaaaaaa", "a-1", "a\n", " a", "_")


def line(label, first, second, strength="1"):
    return Line(label, first, second, ratio(strength))


X, Y, Z = line("x", "a", "b"), line("y", "b", "c", "2/3"), line("z", "b", "a", "5")
NET = Net(NODES, [X, Y, Z])


class Lines(unittest.TestCase):
    def test_fields(self):
        got = Line("x1", "a", "12345678", Ratio(3, 4))
        self.assertEqual((got.label, got.first, got.second, got.strength), ("x1", "a", "12345678", Ratio(3, 4)))
        # A line may have the label of a node.
        self.assertEqual(Line("a", "a", "b", ONE).label, "a")

    def test_errors(self):
        for text in BAD_TEXTS:
            self.assertEqual(failure(Line, text, "", "", Ratio(0)), (BadLabel, {"label": text}))
            self.assertEqual(failure(Line, "x", text, "B", Ratio(0)), (BadNode, {"node": text}))
            self.assertEqual(failure(Line, "x", "a", text, Ratio(0)), (BadNode, {"node": text}))
        for strength in ratios("0", "-1", "1"):
            self.assertEqual(failure(Line, "x", "a", "a", strength), (Loop, {"label": "x"}))
        for strength in ratios("0", "-1", "-1/9"):
            self.assertEqual(failure(Line, "x", "a", "b", strength), (BadWeight, {"label": "x"}))


class Made(unittest.TestCase):
    def test_fields(self):
        self.assertEqual((NET.nodes, NET.lines), (("a", "b", "c"), (X, Y, Z)))
        self.assertIs(type(NET.nodes), tuple)
        self.assertIs(type(NET.lines), tuple)
        self.assertEqual((len(NET), list(NET)), (3, [X, Y, Z]))
        self.assertIs(NET.lines[1], Y)
        net = Net(("n",), ())
        self.assertEqual((net.nodes, net.lines, len(net), list(net)), (("n",), (), 0, []))
        self.assertEqual(len(Net([str(k) for k in range(12)], [])), 0)

    def test_copies(self):
        nodes, lines = list(NODES), [X, Y]
        net = Net(nodes, lines)
        nodes.pop()
        lines.append(Z)
        self.assertEqual((net.nodes, len(net)), (("a", "b", "c"), 2))

    def test_number_of_nodes(self):
        for nodes in ([], [str(k) for k in range(13)], ["A"] * 13, ["a"] * 20):
            self.assertEqual(failure(Net, nodes, [X] * 201), (BadShape, {}))

    def test_nodes(self):
        for text in BAD_TEXTS:
            self.assertEqual(failure(Net, ["a", text, "a"], [X] * 201), (BadNode, {"node": text}))
        self.assertEqual(failure(Net, ["a", "b", "a", "B"], [X] * 201), (TwinNode, {"node": "a"}))
        self.assertEqual(failure(Net, ["a", "B", "a"], [X] * 201), (BadNode, {"node": "B"}))

    def test_number_of_lines(self):
        lines = [line("l%d" % k, "a", "b") for k in range(200)]
        self.assertEqual(len(Net(NODES, lines)), 200)
        self.assertEqual(failure(Net, NODES, lines + [line("y", "q", "a")]), (TooMany, {"most": 200}))
        self.assertEqual(failure(Net, NODES, [X] * 201), (TooMany, {"most": 200}))

    def test_lines(self):
        self.assertEqual(failure(Net, NODES, [X, line("x", "q", "r")]), (NoNode, {"node": "q"}))
        self.assertEqual(failure(Net, NODES, [X, line("x", "a", "r")]), (NoNode, {"node": "r"}))
        self.assertEqual(failure(Net, NODES, [X, line("x", "b", "c"), line("y", "q", "r")]),
                         (TwinLabel, {"label": "x"}))
        self.assertEqual(failure(Net, ["n"], [X]), (NoNode, {"node": "a"}))

    def test_several_lines_between_the_same_nodes(self):
        lines = [line("k", "a", "b"), line("l", "a", "b"), line("m", "b", "a")]
        self.assertEqual(len(Net(NODES, lines)), 3)


class Equality(unittest.TestCase):
    def test_equal(self):
        other = Net(["a", "b", "c"], [line("x", "a", "b"), line("y", "b", "c", "2/3"), line("z", "b", "a", "5")])
        self.assertTrue(NET == other)
        self.assertFalse(NET != other)

    def test_different(self):
        for other in (Net(["a", "c", "b"], NET.lines), Net(NODES + ["d"], NET.lines), Net(NODES, [X, Z, Y]),
                      Net(NODES, [X, Y]), Net(NODES, [X, Y, line("z", "a", "b", "5")]), Net(NODES, []),
                      Net(NODES, [X, Y, line("z", "b", "a", "6")]), Net(NODES, [X, Y, line("zz", "b", "a", "5")]),
                      Net(NODES, [X, Y, line("z", "c", "a", "5")]), Net(NODES, [X, Y, line("z", "b", "c", "5")])):
            self.assertFalse(NET == other)
            self.assertTrue(NET != other)
        for other in (None, NET.text(), NET.as_book(), 3, NET.lines):
            self.assertFalse(NET == other)


class Methods(unittest.TestCase):
    def test_find_line(self):
        for item in NET:
            self.assertIs(NET.find_line(item.label), item)
        for label in ("a", "", "X", "xx", "aaaaaaaaaa"):
            self.assertEqual(failure(NET.find_line, label), (NoLabel, {"label": label}))

    def test_reweighed(self):
        got = NET.reweighed({"z": Ratio(7), "x": Ratio(1, 2)})
        self.assertEqual(got, Net(NODES, [line("x", "a", "b", "1/2"), line("z", "b", "a", "7")]))
        self.assertEqual(NET.reweighed({}), Net(NODES, []))
        self.assertEqual(NET.lines, (X, Y, Z))
        self.assertEqual(got.as_book(), NET.as_book().reweighed({"z": Ratio(7), "x": Ratio(1, 2)}))

    def test_reweighed_errors(self):
        self.assertEqual(failure(NET.reweighed, {"x": Ratio(0), "q": ONE, "r": ONE}), (NoLabel, {"label": "q"}))
        self.assertEqual(failure(NET.reweighed, {"z": Ratio(0), "y": Ratio(-1), "x": ONE}), (BadWeight, {"label": "y"}))
        self.assertEqual(failure(NET.reweighed, {"": Ratio(0)}), (NoLabel, {"label": ""}))

    def test_without(self):
        self.assertEqual(NET.without("y"), Net(NODES, [X, Z]))
        self.assertEqual(NET.without("y").without("x").without("z"), Net(NODES, []))
        self.assertEqual(len(NET), 3)
        for label in ("q", "", "Y"):
            self.assertEqual(failure(NET.without, label), (NoLabel, {"label": label}))

    def test_with_line(self):
        new = line("n", "c", "a", "1/7")
        got = NET.with_line(new)
        self.assertEqual(got, Net(NODES, [X, Y, Z, new]))
        self.assertEqual(len(NET), 3)
        self.assertEqual(failure(NET.with_line, line("x", "a", "c")), (TwinLabel, {"label": "x"}))
        self.assertEqual(failure(NET.with_line, line("x", "q", "c")), (NoNode, {"node": "q"}))
        full = Net(NODES, [line("l%d" % k, "a", "b") for k in range(200)])
        self.assertEqual(failure(full.with_line, line("l0", "q", "c")), (TooMany, {"most": 200}))

    def test_kinds(self):
        for net in (NET.reweighed({}), NET.without("x"), NET.with_line(line("n", "c", "a"))):
            self.assertIs(type(net), Net)


class TheBook(unittest.TestCase):
    def test_known(self):
        self.assertEqual(NET.as_book().text(), "book 3\nx 1: 1 -1 0\ny 2/3: 0 1 -1\nz 5: -1 1 0")
        self.assertEqual(Net(["n"], []).as_book(), Book(1, []))
        self.assertIs(type(NET.as_book()), Book)

    def test_energy(self):
        for net in random_nets(1, 12, most_nodes=4):
            book = net.as_book()
            self.assertEqual((book.width, len(book)), (len(net.nodes), len(net)))
            for direction in directions(len(net.nodes), 1):
                at = dict(zip(net.nodes, direction))
                energy = sum(fraction(item.strength) * (at[item.first] - at[item.second]) ** 2 for item in net)
                self.assertEqual(fraction(book.energy(direction)), energy)


if __name__ == "__main__":
    unittest.main()
