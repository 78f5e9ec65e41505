"""Sets of some places out of many."""

from math import comb

from fewcarry.exact.errors import TooHeavy

_MOST_SETS = 5000


def all_sets(many, size):
    """All sets of `size` of the places from 0 to many - 1, ordered item by item, each an ascending tuple."""
    work = comb(many, size)
    if work > _MOST_SETS:
        raise TooHeavy(work)
    found = [()]
    for missing in range(size, 0, -1):
        # A place that leaves too few behind it for the missing ones is no beginning of a set.
        found = [(*places, place) for places in found for place in range(_first_behind(places), many - missing + 1)]
    return found


def _first_behind(places):
    return places[-1] + 1 if places else 0
