"""Point 52: forests, their weights and the shares of lines."""

import inspect
import unittest
from fractions import Fraction
from math import comb

from fewcarry.exact.errors import NoLabel, TooHeavy
from fewcarry.exact.ratio import Ratio
from fewcarry.grids.solving import determinant
from fewcarry.nets.forests import forest_share, forest_weight, forests
from fewcarry.nets.line import Line
from fewcarry.nets.net import Net
from fewcarry.nets.pieces import bridges
from tests import plain
from tests.support import failure, fraction, random_nets

RING = Net.read("nodes a b c\nx a b 1\ny b c 1\nz a c 1")
PARTS = Net.read("nodes a u b v n\nx a b 2\ny v u 1/3\nz b a 1")
NETS = random_nets(31, 50) + [RING, PARTS]


def net_of(many_nodes, ends):
    nodes = ["n%d" % k for k in range(many_nodes)]
    return Net(nodes, [Line("e%d" % k, nodes[i], nodes[j], Ratio(k + 1, 2)) for k, (i, j) in enumerate(ends)])


class Forests(unittest.TestCase):
    def test_known(self):
        self.assertEqual(list(forests(RING)), [("x", "y"), ("x", "z"), ("y", "z")])
        self.assertEqual(list(forests(PARTS)), [("x", "y"), ("y", "z")])

    def test_by_definition(self):
        for net in NETS:
            self.assertTrue(inspect.isgenerator(forests(net)))
            got = list(forests(net))
            self.assertEqual(got, plain.forests(net))
            self.assertTrue(all(type(forest) is tuple for forest in got))
            self.assertTrue(all(len(forest) == net.as_book().rank() for forest in got))

    def test_rank_0(self):
        for net in (Net.read("nodes n"), Net.read("nodes a b c")):
            self.assertEqual(list(forests(net)), [()])
            self.assertEqual(forest_weight(net), Ratio(1))

    def test_limit(self):
        # Sets of 2 of 100 lines, and sets of 12 nodes and 11 of 15 lines.
        many = net_of(3, [(0, 1)] * 50 + [(1, 2)] * 50)
        self.assertEqual(len(list(forests(many))), 2500)
        one_more = net_of(3, [(0, 1)] * 50 + [(1, 2)] * 51)
        ring = [(k, (k + 1) % 12) for k in range(12)]
        self.assertEqual(len(list(forests(net_of(12, ring + [(0, 6), (3, 9), (0, 6)])))),
                         len(plain.forests(net_of(12, ring + [(0, 6), (3, 9), (0, 6)]))))
        for net, work in ((one_more, comb(101, 2)), (net_of(12, ring * 2), comb(24, 11)),
                          (net_of(12, ring * 16), comb(192, 11))):
            generator = forests(net)
            self.assertEqual(failure(list, generator), (TooHeavy, {"work": work}))

    def test_sets_that_are_no_forests_count(self):
        # There are 100 forests only, of 4950 and 5050 sets.
        self.assertEqual(len(list(forests(net_of(3, [(0, 1)] * 99 + [(1, 2)])))), 99)
        self.assertEqual(failure(list, forests(net_of(3, [(0, 1)] * 100 + [(1, 2)]))), (TooHeavy, {"work": 5050}))

    def test_rank_counts_not_nodes(self):
        net = net_of(12, [(0, 1)] * 200)
        self.assertEqual(list(forests(net)), [("e%d" % k,) for k in range(200)])


class Weights(unittest.TestCase):
    def test_known(self):
        self.assertEqual(forest_weight(RING), Ratio(3))
        self.assertEqual(forest_weight(PARTS), Ratio(1))
        self.assertEqual([forest_share(PARTS, label).text() for label in "xyz"], ["2/3", "1", "1/3"])

    def test_by_definition(self):
        for net in NETS:
            weights = {forest: plain.forest_weight(net, forest) for forest in plain.forests(net)}
            total = sum(weights.values())
            got = forest_weight(net)
            self.assertIs(type(got), Ratio)
            self.assertEqual(fraction(got), total)
            self.assertEqual(got, determinant(net.as_book().core()))
            for line in net:
                part = sum((weight for forest, weight in weights.items() if line.label in forest), Fraction(0))
                share = forest_share(net, line.label)
                self.assertIs(type(share), Ratio)
                self.assertEqual(fraction(share), part / total)
                self.assertEqual(share, net.as_book().pull(line.label))

    def test_bridges_are_in_every_forest(self):
        for net in NETS:
            self.assertEqual([line.label for line in net if forest_share(net, line.label) == Ratio(1)], bridges(net))

    def test_no_limit(self):
        net = net_of(12, [(k % 12, (k * k + k + 1) % 12) for k in range(200) if (k * k + 1) % 12])
        self.assertEqual(forest_weight(net).sign(), 1)
        total = sum(fraction(forest_share(net, line.label)) for line in net)
        self.assertEqual(total, net.as_book().rank())
        self.assertEqual(failure(list, forests(net))[0], TooHeavy)

    def test_no_label(self):
        for net in (RING, PARTS, Net.read("nodes n")):
            for label in ("q", "a", "", "X", "aaaaaaaaaa"):
                self.assertEqual(failure(forest_share, net, label), (NoLabel, {"label": label}))


if __name__ == "__main__":
    unittest.main()
