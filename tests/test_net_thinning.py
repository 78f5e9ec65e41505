"""Points 53 and 54: the few lines of a net."""

import unittest
from fractions import Fraction

from fewcarry.exact.errors import BadQ, TooHeavy
from fewcarry.exact.ratio import Ratio
from fewcarry.nets.cuts import cut
from fewcarry.nets.forests import forest_weight
from fewcarry.nets.heights import power
from fewcarry.nets.line import Line
from fewcarry.nets.net import Net
from fewcarry.nets.net_thinning import NetThinning, exact_net
from fewcarry.nets.pieces import bridges, pieces
from fewcarry.nets.resistance import resistance
from fewcarry.thins.bars import Bars
from fewcarry.thins.exactly import exact_few
from fewcarry.thins.thinning import Thinning
from tests.support import directions, failure, fraction, random_nets, ratio, ratios

QS = ratios("3/2", "13/12", "3", "2", "4/3")
PARTS = Net.read("nodes a u b v n\nx a b 2\ny v u 1/3\nz b a 1")
NETS = random_nets(41, 12) + [PARTS, Net.read("nodes n"), Net.read("nodes a b c")]
THINNINGS = [NetThinning(net, QS[k % 5]) for k, net in enumerate(NETS)]


def full_net(many, times=1):
    """A net with lines between all nodes."""
    nodes = ["n%d" % k for k in range(many)]
    ends = [(i, j) for i in range(many) for j in range(i)] * times
    return Net(nodes, [Line("e%d" % k, nodes[i], nodes[j], Ratio(1 + k % 5, 2)) for k, (i, j) in enumerate(ends)])


def pushes(net):
    """Pushes of one unit within the pieces, and some greater ones."""
    made = [{piece[0]: 1, node: -1} for piece in pieces(net) for node in piece[1:]]
    return made + [{piece[0]: 3, piece[1]: 2, piece[-1]: -5} for piece in pieces(net) if len(piece) > 2]


class Thinned(unittest.TestCase):
    def test_is_the_thinning_of_the_book(self):
        for got, net in zip(THINNINGS, NETS):
            thinning = Thinning(net.as_book(), got.bars.q)
            self.assertIs(got.net, net)
            self.assertIs(type(got.few), Net)
            self.assertEqual(got.few.nodes, net.nodes)
            self.assertEqual(got.few.as_book(), thinning.few)
            self.assertEqual(got.factor, thinning.factor)
            self.assertIs(type(got.bars), Bars)
            self.assertEqual((got.bars.q, got.bars.dimension), (thinning.bars.q, thinning.bars.dimension))
            ends = {line.label: (line.first, line.second) for line in net}
            for line in got.few:
                self.assertEqual((line.first, line.second), ends[line.label])

    def test_rank_0(self):
        for net in (Net.read("nodes n"), Net.read("nodes a b c")):
            got = NetThinning(net, Ratio(2))
            self.assertEqual((got.few, got.factor, got.bars.steps), (net, Ratio(1), 0))

    def test_errors(self):
        heavy = full_net(12, 3)
        for q in ratios("1", "49/12", "5", "14/13", "0"):
            self.assertEqual(failure(NetThinning, heavy, q), (BadQ, {"q": q}))
        # 14 steps for rank 11 and 13/12, of 198 loads.
        self.assertEqual(failure(NetThinning, heavy, ratio("13/12")),
                         (TooHeavy, {"work": 13 * (198 * 121 + 1331)}))


class WhatItPromises(unittest.TestCase):
    def setUp(self):
        self.cases = THINNINGS + [NetThinning(full_net(6), ratio("3/2"))]

    def test_lines(self):
        for got in self.cases:
            self.assertLessEqual(len(got.few), got.bars.steps)
            self.assertEqual(pieces(got.few), pieces(got.net))
            for label in bridges(got.net):
                before, after = got.net.find_line(label).strength, got.few.find_line(label).strength
                self.assertGreaterEqual(after.compare(before), 0)
                self.assertLessEqual(after.compare(before * got.factor), 0)

    def test_cuts(self):
        for got in self.cases:
            for direction in directions(len(got.net.nodes), 1):
                if -1 not in direction:
                    nodes = [node for node, number in zip(got.net.nodes, direction) if number]
                    before, after = cut(got.net, nodes), cut(got.few, nodes)
                    self.assertGreaterEqual(after.compare(before), 0)
                    self.assertLessEqual(after.compare(before * got.factor), 0)

    def test_powers_and_resistances(self):
        for got in self.cases:
            for push in pushes(got.net):
                before, after = power(got.net, push), power(got.few, push)
                self.assertLessEqual(after.compare(before), 0)
                self.assertGreaterEqual((after * got.factor).compare(before), 0)
            for piece in pieces(got.net):
                for node in piece:
                    before = resistance(got.net, piece[0], node)
                    after = resistance(got.few, piece[0], node)
                    self.assertLessEqual(after.compare(before), 0)
                    self.assertGreaterEqual((after * got.factor).compare(before), 0)

    def test_forest_weights(self):
        for got in self.cases:
            before, after = forest_weight(got.net), forest_weight(got.few)
            self.assertGreaterEqual(after.compare(before), 0)
            self.assertLessEqual(after.compare(before * got.factor ** got.bars.dimension), 0)

    def test_order_and_names_of_nodes_and_ends_of_lines_do_not_matter(self):
        for got in self.cases:
            nodes = got.net.nodes
            names = {node: "m%d" % k for k, node in enumerate(nodes)}
            turned = [Line(line.label, names[line.second], names[line.first], line.strength)
                      if k % 2 else Line(line.label, names[line.first], names[line.second], line.strength)
                      for k, line in enumerate(got.net)]
            for order in (nodes[::-1], nodes[1:] + nodes[:1]):
                other = NetThinning(Net([names[node] for node in order], turned), got.bars.q)
                self.assertEqual([(line.label, line.strength) for line in other.few],
                                 [(line.label, line.strength) for line in got.few])


class Exactly(unittest.TestCase):
    def test_known(self):
        got = exact_net(Net.read("nodes a b c\nx a b 1\ny b c 1/2\nz b a 3\nw c b 1\nv a b 1/3"))
        self.assertEqual(got.text(), "nodes a b c\nx a b 13/3\ny b c 3/2")

    def test_puts_lines_between_the_same_nodes_together(self):
        for net in NETS + random_nets(42, 20, most_nodes=3, most_lines=9) + [full_net(5, 3)]:
            firsts, strengths = {}, {}
            for line in net:
                first = firsts.setdefault(frozenset((line.first, line.second)), line)
                strengths[first.label] = strengths.get(first.label, Fraction(0)) + fraction(line.strength)
            got = exact_net(net)
            self.assertIs(type(got), Net)
            self.assertEqual(got.nodes, net.nodes)
            self.assertEqual([line.label for line in got], list(strengths))
            for line in got:
                first = net.find_line(line.label)
                self.assertEqual((line.first, line.second), (first.first, first.second))
                self.assertEqual(fraction(line.strength), strengths[line.label])
            self.assertEqual(got.as_book(), exact_few(net.as_book()))
            self.assertEqual(got.as_book().square(), net.as_book().square())

    def test_without_lines(self):
        net = Net.read("nodes a b")
        self.assertEqual(exact_net(net), net)

    def test_errors(self):
        self.assertEqual(failure(exact_net, full_net(12, 2)), (TooHeavy, {"work": 132 * 66 * 66}))
        self.assertEqual(len(exact_net(full_net(12))), 66)


if __name__ == "__main__":
    unittest.main()
