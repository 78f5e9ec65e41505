"""Cuts: what joins some nodes of a net to the others."""

from fewcarry.exact.ratio import Ratio


def cut(net, nodes):
    """The sum of the strengths of the lines with exactly one end among the nodes."""
    total = Ratio(0)
    for line in _crossing(net, nodes):
        total = total + line.strength
    return total


def cut_lines(net, nodes):
    """The labels of the lines with exactly one end among the nodes."""
    return [line.label for line in _crossing(net, nodes)]


def _crossing(net, nodes):
    for node in nodes:
        # Only its error is wanted.
        net.place_of(node)
    return [line for line in net if (line.first in nodes) != (line.second in nodes)]
