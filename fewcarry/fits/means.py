"""Means over the exact fits of all sets of loads, weighted by their volumes."""

from fewcarry.exact.ratio import Ratio
from fewcarry.fits.fit import cost_of
from fewcarry.fits.solved import solved_sets


def mean_shares(book):
    """The means of the shares of all exact fits."""
    fits = _exact_fits(book)
    return [_mean(fits, [solved.shares[place] for solved in fits]) for place in range(book.width - 1)]


def mean_cost(book):
    """The mean of the costs that the shares of all exact fits have in the whole book."""
    fits = _exact_fits(book)
    return _mean(fits, [cost_of(book, solved.shares) for solved in fits])


def _exact_fits(book):
    return [solved for solved in solved_sets(book) if solved.shares is not None]


def _mean(fits, values):
    total = Ratio(0)
    weighted = Ratio(0)
    for solved, value in zip(fits, values):
        total = total + solved.volume
        weighted = weighted + solved.volume * value
    return weighted.divided(total)
