"""Point 50: heights, currents and powers."""

import unittest
from fractions import Fraction
from random import Random

from fewcarry.books.balance import power_of
from fewcarry.exact.errors import NoNode, Uneven
from fewcarry.exact.ratio import Ratio
from fewcarry.nets.heights import currents, heights, power
from fewcarry.nets.net import Net
from fewcarry.nets.pieces import pieces
from tests.support import directions, failure, fraction, random_nets, texts

ZERO = Fraction(0)
RING = Net.read("nodes a b c\nx a b 1\ny b c 1\nz a c 1")
PARTS = Net.read("nodes a u b v n\nx a b 2\ny v u 1/3\nz b a 1")


def some_cases():
    """Nets with pushes that they can take, which have whole numbers at some of the nodes."""
    random = Random(5)
    made = []
    for net in random_nets(6, 40) + [RING, PARTS]:
        push = {}
        for piece in pieces(net):
            numbers = [random.randint(-4, 4) for _ in piece[:-1]]
            numbers.append(-sum(numbers))
            for node, number in sorted(zip(piece, numbers), key=lambda pair: random.random()):
                if number or random.random() < 0.5:
                    push[node] = number
        made.append((net, push))
    return made


CASES = some_cases()


class Heights(unittest.TestCase):
    def test_known(self):
        self.assertEqual({node: number.text() for node, number in heights(RING, {"a": 3, "c": -3}).items()},
                         {"a": "2", "b": "1", "c": "0"})
        got = heights(PARTS, {"a": 3, "b": -3, "v": 1, "u": -1})
        self.assertEqual((list(got), texts(got.values())), (["a", "u", "b", "v", "n"], ["1", "-3", "0", "0", "0"]))

    def test_by_definition(self):
        for net, push in CASES:
            got = heights(net, push)
            self.assertIs(type(got), dict)
            self.assertEqual(list(got), list(net.nodes))
            self.assertTrue(all(type(number) is Ratio for number in got.values()))
            for piece in pieces(net):
                self.assertEqual(got[piece[-1]], Ratio(0))
            at = {node: fraction(number) for node, number in got.items()}
            for node in net.nodes:
                total = ZERO
                for item in net:
                    if node in (item.first, item.second):
                        other = item.second if node == item.first else item.first
                        total += fraction(item.strength) * (at[node] - at[other])
                self.assertEqual(total, push.get(node, 0))

    def test_no_push(self):
        for net, _ in CASES:
            for push in ({}, {net.nodes[0]: 0}, {node: 0 for node in net.nodes}):
                self.assertEqual(heights(net, push), {node: Ratio(0) for node in net.nodes})
                self.assertEqual(currents(net, push), {item.label: Ratio(0) for item in net})
                self.assertEqual(power(net, push), Ratio(0))

    def test_one_node(self):
        net = Net.read("nodes n")
        self.assertEqual((heights(net, {"n": 0}), currents(net, {}), power(net, {})), ({"n": Ratio(0)}, {}, Ratio(0)))
        self.assertEqual(failure(heights, net, {"n": 1}), (Uneven, {"nodes": ("n",)}))

    def test_large_numbers(self):
        got = heights(RING, {"a": 3 * 10 ** 30, "c": -3 * 10 ** 30})
        self.assertEqual(got["a"], Ratio(2 * 10 ** 30))


class Currents(unittest.TestCase):
    def test_known(self):
        got = currents(RING, {"a": 3, "c": -3})
        self.assertEqual((list(got), texts(got.values())), (["x", "y", "z"], ["1", "1", "2"]))
        got = currents(PARTS, {"a": 3, "b": -3, "v": 1, "u": -1})
        self.assertEqual((list(got), texts(got.values())), (["x", "y", "z"], ["2", "1", "-1"]))

    def test_by_definition(self):
        for net, push in CASES:
            got, at = currents(net, push), heights(net, push)
            self.assertIs(type(got), dict)
            self.assertEqual(list(got), [item.label for item in net])
            for item in net:
                self.assertEqual(got[item.label], item.strength * (at[item.first] - at[item.second]))
            for node in net.nodes:
                out = sum((fraction(got[item.label]) for item in net if item.first == node), ZERO)
                back = sum((fraction(got[item.label]) for item in net if item.second == node), ZERO)
                self.assertEqual(out - back, push.get(node, 0))


class Power(unittest.TestCase):
    def test_known(self):
        self.assertEqual(power(RING, {"a": 3, "c": -3}), Ratio(6))
        self.assertEqual(power(PARTS, {"a": 3, "b": -3, "v": 1, "u": -1}), Ratio(6))

    def test_by_definition(self):
        for net, push in CASES:
            got = power(net, push)
            self.assertIs(type(got), Ratio)
            at = {node: fraction(number) for node, number in heights(net, push).items()}
            flows = {label: fraction(number) for label, number in currents(net, push).items()}
            self.assertEqual(fraction(got), sum((at[node] * push.get(node, 0) for node in at), ZERO))
            energy = sum((fraction(item.strength) * (at[item.first] - at[item.second]) ** 2 for item in net), ZERO)
            self.assertEqual(fraction(got), energy)
            cost = sum((flows[item.label] ** 2 / fraction(item.strength) for item in net), ZERO)
            self.assertEqual(fraction(got), cost)
            self.assertEqual(got, power_of(net.as_book(), [push.get(node, 0) for node in net.nodes]))

    def test_no_other_numbers_give_more(self):
        for net, push in CASES[:15] + CASES[-2:]:
            got, at = fraction(power(net, push)), heights(net, push)
            for direction in directions(len(net.nodes), 1):
                x = {node: fraction(at[node]) + Fraction(step, 3) for node, step in zip(net.nodes, direction)}
                energy = sum((fraction(item.strength) * (x[item.first] - x[item.second]) ** 2 for item in net), ZERO)
                self.assertLessEqual(2 * sum(x[node] * push.get(node, 0) for node in x) - energy, got)

    def test_no_other_currents_cost_less(self):
        # Round a ring, currents may have some more or less without another push.
        flows = {label: fraction(number) for label, number in currents(RING, {"a": 3, "c": -3}).items()}
        for more in (Fraction(-3), Fraction(-1, 5), Fraction(1, 9), Fraction(2)):
            other = {"x": flows["x"] + more, "y": flows["y"] + more, "z": flows["z"] - more}
            self.assertGreater(sum(flow ** 2 for flow in other.values()), 6)


class Errors(unittest.TestCase):
    def check(self, net, push, wanted):
        for call in (heights, currents, power):
            self.assertEqual(failure(call, net, push), wanted)

    def test_nodes(self):
        for node in ("q", "", "A", "aaaaaaaaaa", "x"):
            self.check(RING, {"a": 1, node: -1, "r": 5}, (NoNode, {"node": node}))
            self.check(RING, {node: 0}, (NoNode, {"node": node}))

    def test_uneven(self):
        self.check(RING, {"a": 1}, (Uneven, {"nodes": ("a", "b", "c")}))
        self.check(RING, {"a": 1, "b": 1, "c": -1}, (Uneven, {"nodes": ("a", "b", "c")}))
        # The first piece, in the order of the pieces, and not that of the push.
        self.check(PARTS, {"n": 1, "v": 1, "u": 1, "a": 1, "b": -1}, (Uneven, {"nodes": ("u", "v")}))
        self.check(PARTS, {"n": 1, "v": 1, "u": -1}, (Uneven, {"nodes": ("n",)}))
        # All pushes add up to 0, but not in each piece.
        self.check(PARTS, {"a": 1, "u": -1}, (Uneven, {"nodes": ("a", "b")}))

    def test_arguments_stay(self):
        push = {"c": -3, "a": 3}
        for call in (heights, currents, power):
            call(RING, push)
        self.assertEqual(list(push.items()), [("c", -3), ("a", 3)])


if __name__ == "__main__":
    unittest.main()
