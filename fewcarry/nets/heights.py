"""What a push does in a net: heights at the nodes, currents in the lines, and its power."""

from fewcarry.books.balance import balance
from fewcarry.exact.errors import Uneven
from fewcarry.exact.ratio import Ratio
from fewcarry.nets.pieces import pieces


def heights(net, push):
    """The heights of all nodes, with 0 at the last node of each piece, at which the net takes the push."""
    for node in push:
        # Only its error is wanted.
        net.place_of(node)
    for piece in pieces(net):
        if sum([push.get(node, 0) for node in piece]) != 0:
            raise Uneven(piece)
    # The columns that are not independent are those of the last nodes.
    numbers = balance(net.as_book(), [push.get(node, 0) for node in net.nodes])
    return {node: number for node, number in zip(net.nodes, numbers)}


def currents(net, push):
    """What flows through each line from its first to its second node."""
    at = heights(net, push)
    return {line.label: line.strength * (at[line.first] - at[line.second]) for line in net}


def power(net, push):
    """The sum of all heights, each times its push."""
    total = Ratio(0)
    for node, height in heights(net, push).items():
        total = total + height * Ratio(push.get(node, 0))
    return total
