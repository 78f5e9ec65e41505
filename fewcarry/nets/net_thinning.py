"""The few lines that carry a net."""

from fewcarry.thins.exactly import exact_few
from fewcarry.thins.thinning import Thinning


class NetThinning:
    """The thinning of the book of a net, and the net of the few lines."""

    def __init__(self, net, q):
        thinning = Thinning(net.as_book(), q)
        self.net = net
        self.few = with_loads(net, thinning.few)
        self.factor = thinning.factor
        self.bars = thinning.bars


def exact_net(net):
    """The net of some of the lines, with new strengths, that has the same energies."""
    return with_loads(net, exact_few(net.as_book()))


def with_loads(net, book):
    """The net of the lines whose loads the book has, with the weights of these as strengths."""
    return net.reweighed({load.label: load.weight for load in book})
