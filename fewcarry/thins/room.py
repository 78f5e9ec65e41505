"""The room between a chosen grid and a bar, which must be above zero, and the potentials in it."""

from fewcarry.exact.errors import BadShape, NotAbove, OutOfBars
from fewcarry.exact.ratio import Ratio
from fewcarry.grids.order import is_above
from fewcarry.grids.rows import dot
from fewcarry.grids.symmetry import check_symmetric


def check_grids(core, chosen):
    """Refuse grids that are not symmetric or not of one size, and a core that is not above zero."""
    check_symmetric(core)
    check_symmetric(chosen)
    if core.height != chosen.height:
        raise BadShape()
    if not is_above(core):
        raise NotAbove()


def ceiling_room(core, chosen, bar):
    """The grid of bar * core - chosen."""
    room = core.scaled(bar) - chosen
    if not is_above(room):
        raise OutOfBars("ceiling")
    return room


def floor_room(core, chosen, bar):
    """The grid of chosen - bar * core."""
    room = chosen - core.scaled(bar)
    if not is_above(room):
        raise OutOfBars("floor")
    return room


def potential_of(core, g):
    """The trace of the product of the core with `g`, the inverse of a room."""
    # As g is symmetric, its rows are its columns.
    return Ratio(sum([dot(row, line) for row, line in zip(core.rows, g.rows)]), core.over * g.over)
