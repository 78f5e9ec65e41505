"""Point 51: the resistance between two nodes."""

import unittest
from fractions import Fraction
from itertools import product

from fewcarry.exact.errors import NoNode, Parted
from fewcarry.exact.ratio import Ratio
from fewcarry.nets.heights import power
from fewcarry.nets.line import Line
from fewcarry.nets.net import Net
from fewcarry.nets.pieces import pieces
from fewcarry.nets.resistance import resistance
from tests import plain
from tests.support import failure, fraction, random_nets, ratio

RING = Net.read("nodes a b c\nx a b 1\ny b c 1\nz a c 1")
PARTS = Net.read("nodes a u b v n\nx a b 2\ny v u 1/3\nz b a 1")
NETS = random_nets(21, 40) + [RING, PARTS]


def pairs_in_pieces(net):
    return [pair for piece in pieces(net) for pair in product(piece, repeat=2)]


class Resistance(unittest.TestCase):
    def test_known(self):
        self.assertEqual(resistance(RING, "a", "b"), ratio("2/3"))
        self.assertEqual(resistance(PARTS, "b", "a"), ratio("1/3"))
        self.assertEqual(resistance(PARTS, "u", "v"), Ratio(3))
        # One behind the other the resistances add up.
        row = Net.read("nodes a b c\nx a b 2\ny c b 1/3")
        self.assertEqual(resistance(row, "a", "c"), ratio("7/2"))

    def test_by_definition(self):
        for net in NETS:
            for first, second in pairs_in_pieces(net):
                got = resistance(net, first, second)
                self.assertIs(type(got), Ratio)
                if first == second:
                    self.assertEqual(got, Ratio(0))
                else:
                    self.assertEqual(got, power(net, {first: 1, second: -1}))
                    self.assertEqual(fraction(got), plain.resistance(net, first, second))
                self.assertEqual(got, resistance(net, second, first))

    def test_one_more_line(self):
        for net in NETS:
            for k, (first, second) in enumerate(pairs_in_pieces(net)):
                if first != second:
                    strength = Ratio(k + 1, 3)
                    more = net.with_line(Line("more", second, first, strength))
                    before = fraction(resistance(net, first, second))
                    self.assertEqual(fraction(resistance(more, first, second)),
                                     before / (1 + fraction(strength) * before))
                    for ends in pairs_in_pieces(net):
                        self.assertLessEqual(resistance(more, *ends).compare(resistance(net, *ends)), 0)

    def test_pulls(self):
        for net in NETS:
            for line in net:
                self.assertEqual(line.strength * resistance(net, line.first, line.second),
                                 net.as_book().pull(line.label))

    def test_same_node(self):
        for net in (Net.read("nodes n"), Net.read("nodes n m"), RING):
            for node in net.nodes:
                self.assertEqual(resistance(net, node, node), Ratio(0))

    def test_no_node(self):
        for net in (RING, PARTS):
            self.assertEqual(failure(resistance, net, "q", "r"), (NoNode, {"node": "q"}))
            self.assertEqual(failure(resistance, net, "q", "q"), (NoNode, {"node": "q"}))
            self.assertEqual(failure(resistance, net, "q", "a"), (NoNode, {"node": "q"}))
            for node in ("r", "", "A", "aaaaaaaaaa", "x"):
                self.assertEqual(failure(resistance, net, "a", node), (NoNode, {"node": node}))

    def test_parted(self):
        for first, second in (("a", "u"), ("v", "b"), ("n", "a"), ("u", "n")):
            self.assertEqual(failure(resistance, PARTS, first, second),
                             (Parted, {"first": first, "second": second}))
        self.assertEqual(failure(resistance, Net(["n", "m"], []), "m", "n"), (Parted, {"first": "m", "second": "n"}))


class OfPlain(unittest.TestCase):
    def test_known(self):
        self.assertEqual(plain.resistance(RING, "a", "b"), Fraction(2, 3))


if __name__ == "__main__":
    unittest.main()
