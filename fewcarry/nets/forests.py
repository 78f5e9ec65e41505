"""The forests of a net, which join all nodes of each piece without a ring, and their weights."""

from fewcarry.grids.picking import all_sets
from fewcarry.grids.solving import determinant
from fewcarry.nets.net import Net
from fewcarry.nets.pieces import pieces


def forests(net):
    """The forests, each a tuple of labels, ordered by the places of their lines."""
    many = len(pieces(net))
    for places in all_sets(len(net), len(net.nodes) - many):
        lines = [net.lines[place] for place in places]
        # So many lines join all that can be joined exactly if none of them closes a ring.
        if len(pieces(Net(net.nodes, lines))) == many:
            yield tuple([line.label for line in lines])


def forest_weight(net):
    """The sum of the weights of all forests."""
    # By the matrix tree theorem.
    return determinant(net.as_book().core())


def forest_share(net, label):
    """The share that the forests with a line have of the weight of all forests."""
    return net.as_book().pull(label)
