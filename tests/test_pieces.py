"""Point 49: pieces, bridges and cuts."""

import unittest
from fractions import Fraction
from itertools import combinations

from fewcarry.exact.errors import NoNode
from fewcarry.exact.ratio import Ratio
from fewcarry.nets.cuts import cut, cut_lines
from fewcarry.nets.net import Net
from fewcarry.nets.pieces import bridges, pieces
from tests.support import energy_of, failure, fraction, random_nets

# Two pieces and a node of its own; d hangs on a bridge, and two lines join e and f.
NET = Net.read("nodes e a d b g f c\nx a b 1\ny b c 2/3\nz c a 5\nw c d 1/2\nu f e 3\nv e f 1")
NETS = random_nets(3, 40) + [NET]


def pieces_by_walking(net):
    found = []
    for node in net.nodes:
        if not any(node in piece for piece in found):
            reached = {node}
            while True:
                more = {end for item in net for end in (item.first, item.second)
                        if item.first in reached or item.second in reached} - reached
                if not more:
                    break
                reached |= more
            found.append([other for other in net.nodes if other in reached])
    return found


class Pieces(unittest.TestCase):
    def test_known(self):
        self.assertEqual(pieces(NET), [["e", "f"], ["a", "d", "b", "c"], ["g"]])
        self.assertEqual(pieces(Net.read("nodes n")), [["n"]])
        self.assertEqual(pieces(Net.read("nodes b a")), [["b"], ["a"]])
        self.assertEqual(pieces(Net.read("nodes b c a\nx c a 1\ny b c 1")), [["b", "c", "a"]])
        self.assertEqual(pieces(Net.read("nodes a b c d\nx c d 1\ny a d 1\nz b d 1")), [["a", "b", "c", "d"]])

    def test_by_walking(self):
        for net in NETS:
            got = pieces(net)
            self.assertIs(type(got), list)
            self.assertEqual(got, pieces_by_walking(net))
            self.assertTrue(all(type(piece) is list for piece in got))

    def test_rank_and_columns(self):
        for net in NETS:
            book = net.as_book()
            self.assertEqual(book.rank(), len(net.nodes) - len(pieces(net)))
            last = [piece[-1] for piece in pieces(net)]
            self.assertEqual(book.columns(), [k for k, node in enumerate(net.nodes) if node not in last])


class Bridges(unittest.TestCase):
    def test_known(self):
        self.assertEqual(bridges(NET), ["w"])
        self.assertEqual(bridges(Net.read("nodes a b c\ny b c 1\nx a b 1")), ["y", "x"])
        self.assertEqual(bridges(Net.read("nodes n")), [])
        self.assertEqual(bridges(Net.read("nodes a b\nx a b 1\ny b a 1")), [])

    def test_by_definition(self):
        seen = 0
        for net in NETS:
            many = len(pieces_by_walking(net))
            expected = [item.label for item in net if len(pieces_by_walking(net.without(item.label))) > many]
            self.assertEqual(bridges(net), expected)
            pulls = net.as_book().pulls()
            self.assertEqual([item.label for item, pull in zip(net, pulls) if pull == Ratio(1)], expected)
            seen += len(expected)
        self.assertGreater(seen, 20)


class Cuts(unittest.TestCase):
    def test_known(self):
        self.assertEqual((cut(NET, ["a"]), cut_lines(NET, ["a"])), (Ratio(6), ["x", "z"]))
        self.assertEqual((cut(NET, ["c", "e"]), cut_lines(NET, ["c", "e"])), (Ratio(61, 6), ["y", "z", "w", "u", "v"]))
        self.assertEqual((cut(NET, ["g"]), cut_lines(NET, ["g"])), (Ratio(0), []))

    def test_all_and_none(self):
        for net in NETS:
            for nodes in ([], list(net.nodes), net.nodes, *pieces(net)):
                got = cut(net, nodes)
                self.assertIs(type(got), Ratio)
                self.assertEqual((got, cut_lines(net, nodes)), (Ratio(0), []))

    def test_by_definition(self):
        for net in NETS:
            for many in range(len(net.nodes) + 1):
                for nodes in combinations(net.nodes, many):
                    lines = [item for item in net if (item.first in nodes) + (item.second in nodes) == 1]
                    total = sum((fraction(item.strength) for item in lines), Fraction(0))
                    self.assertEqual(fraction(cut(net, list(nodes))), total)
                    self.assertEqual(cut_lines(net, list(nodes)), [item.label for item in lines])
                    direction = [int(node in nodes) for node in net.nodes]
                    self.assertEqual(energy_of(net.as_book(), direction), total)

    def test_nodes_that_occur_more_than_once(self):
        self.assertEqual(cut(NET, ["a", "a"]), cut(NET, ["a"]))
        self.assertEqual(cut_lines(NET, ["b", "a", "b"]), cut_lines(NET, ["a", "b"]))

    def test_errors(self):
        for call in (cut, cut_lines):
            for node in ("q", "", "A", "aaaaaaaaaa", "x"):
                self.assertEqual(failure(call, NET, ["a", node, "r"]), (NoNode, {"node": node}))
                self.assertEqual(failure(call, NET, [node]), (NoNode, {"node": node}))


if __name__ == "__main__":
    unittest.main()
