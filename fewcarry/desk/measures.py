"""The measures of books and nets, told by few loads: each a span in which the measure of the whole lies."""

from fewcarry.books.balance import power_of
from fewcarry.certificates.closest import determinant_span
from fewcarry.exact.errors import WrongKind
from fewcarry.exact.extremes import lesser
from fewcarry.exact.ratio import Ratio
from fewcarry.exact.span import Span
from fewcarry.fits.few_fit import cost_span
from fewcarry.nets.cuts import cut
from fewcarry.nets.net_thinning import with_loads
from fewcarry.nets.resistance import resistance

_FOR_NETS_ONLY = ("cut", "resistance", "forests")
_FOR_BOOKS_ONLY = ("determinant", "cost")


def measured(measure, thing, few):
    """The span of a measure of a thing, as far as a Few that carries its book tells it."""
    if measure.word in (_FOR_BOOKS_ONLY if thing.is_net() else _FOR_NETS_ONLY):
        raise WrongKind(measure.name)
    span_of = _SPANS[measure.word]
    return span_of(thing, few, measure.given)


def _energy(thing, few, direction):
    return _falling(few.book.energy(direction), few.factor)


def _power(thing, few, push):
    return _rising(power_of(few.book, push), few.factor)


def _pull(thing, few, given):
    # The few loads need not have this one.
    load = thing.watch.whole.load(given[0])
    span = _rising(load.weight * power_of(few.book, load.numbers), few.factor)
    return Span(span.low, lesser(Ratio(1), span.high))


def _cut(thing, few, nodes):
    return _falling(cut(with_loads(thing.net, few.book), nodes), few.factor)


def _resistance(thing, few, ends):
    first, second = ends
    return _rising(resistance(with_loads(thing.net, few.book), first, second), few.factor)


def _determinant(thing, few, given):
    # For a net it is the weight of its forests.
    return determinant_span(few.book, Ratio(1), few.factor)


def _cost(thing, few, given):
    return cost_span(few)


def _falling(value, factor):
    # What is never less for the few loads than for the whole.
    return Span(value.divided(factor), value)


def _rising(value, factor):
    # What is never more for the few loads than for the whole.
    return Span(value, value * factor)


_SPANS = {
    "energy": _energy,
    "power": _power,
    "pull": _pull,
    "cut": _cut,
    "resistance": _resistance,
    "forests": _determinant,
    "determinant": _determinant,
    "cost": _cost,
}
