"""Volumes: how much sets of loads say about the shares of the given columns."""

from fewcarry.fits.solved import solved_sets


def volumes(book):
    """The labels and the volume of each set of as many loads as there are given columns."""
    for solved in solved_sets(book):
        yield solved.labels, solved.volume
