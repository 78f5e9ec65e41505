"""What a few loads tell of the best fit of the whole book."""

from fewcarry.exact.span import Span
from fewcarry.fits.fit import Fit, check_given
from fewcarry.thins.fewest import fewest


def cost_span(few):
    """A span in which the least cost of every book lies that the Few carries."""
    cost = Fit(few.book).least_cost
    return Span(cost.divided(few.factor), cost)


def fit_by_few(book, q):
    """The fit of the fewest loads, and the factor by which its cost may be above the least one."""
    check_given(book)
    few = fewest(book, q)
    return Fit(few.book), few.factor
