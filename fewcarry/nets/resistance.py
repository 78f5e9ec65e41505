"""The resistance between two nodes of a net."""

from fewcarry.exact.errors import Parted, Uneven
from fewcarry.nets.heights import power


def resistance(net, first, second):
    """The power of a push of 1 at the first node and -1 at the second one."""
    push = {first: 0} if first == second else {first: 1, second: -1}
    try:
        return power(net, push)
    except Uneven:
        raise Parted(first, second) from None
