"""The potentials of a chosen grid below a ceiling and above a floor."""

from fewcarry.grids.solving import inverse
from fewcarry.thins.room import ceiling_room, check_grids, floor_room, potential_of


def ceiling_potential(core, chosen, bar):
    """The trace of the product of `core` with the inverse of bar * core - chosen."""
    check_grids(core, chosen)
    return potential_of(core, inverse(ceiling_room(core, chosen, bar)))


def floor_potential(core, chosen, bar):
    """The trace of the product of `core` with the inverse of chosen - bar * core."""
    check_grids(core, chosen)
    return potential_of(core, inverse(floor_room(core, chosen, bar)))
