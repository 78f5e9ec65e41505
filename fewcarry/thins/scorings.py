"""Grids whose form with a row on both sides is the score of the row with weight 1."""

from fewcarry.exact.ratio import Ratio
from fewcarry.grids.solving import inverse
from fewcarry.thins.room import ceiling_room, floor_room, potential_of


def ceiling_scoring(core, chosen, bar, next_bar):
    """The grid for the ceiling scores from `bar` to `next_bar`."""
    before = potential_of(core, inverse(ceiling_room(core, chosen, bar)))
    g = inverse(ceiling_room(core, chosen, next_bar))
    fall = before - potential_of(core, g)
    return _shared(g * core * g, fall) + g


def floor_scoring(core, chosen, bar, next_bar):
    """The grid for the floor scores from `bar` to `next_bar`."""
    h = inverse(floor_room(core, chosen, next_bar))
    before = potential_of(core, inverse(floor_room(core, chosen, bar)))
    rise = potential_of(core, h) - before
    return _shared(h * core * h, rise) - h


def _shared(grid, whole):
    return grid.scaled(Ratio(1).divided(whole))
