"""The scores of a weighted row: how slowly or how quickly it may be added between two bars."""

from fewcarry.exact.errors import BadFactor, BadShape, Crossed
from fewcarry.thins.room import check_grids
from fewcarry.thins.scorings import ceiling_scoring, floor_scoring


def ceiling_score(core, chosen, bar, next_bar, row, weight):
    """The least rate at which the row may be added below the next ceiling."""
    _check(core, chosen, bar, next_bar, row, weight)
    return weight * ceiling_scoring(core, chosen, bar, next_bar).form(row, row)


def floor_score(core, chosen, bar, next_bar, row, weight):
    """The greatest rate at which the row may be added above the next floor."""
    _check(core, chosen, bar, next_bar, row, weight)
    return weight * floor_scoring(core, chosen, bar, next_bar).form(row, row)


def _check(core, chosen, bar, next_bar, row, weight):
    check_grids(core, chosen)
    if bar.compare(next_bar) >= 0:
        raise Crossed(bar, next_bar)
    if core.height == 0 or len(row) != core.height:
        raise BadShape()
    if weight.sign() <= 0:
        raise BadFactor(weight)
