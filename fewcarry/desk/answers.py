"""Questions answered."""

from fewcarry.desk.deeds import thing_called
from fewcarry.desk.measures import measured
from fewcarry.desk.reader import Measure
from fewcarry.exact.ratio import Ratio
from fewcarry.exact.span import Span
from fewcarry.thins.fewest import Few


def answered(question, things, from_wholes):
    """The answer from the summaries, or from the whole books: a Span, True, False or None."""
    values = []
    for step in question.steps:
        if isinstance(step, Measure):
            thing = thing_called(things, step.name)
            # A whole book carries itself with the factor 1, so then all spans are points.
            few = Few(thing.watch.whole, Ratio(1)) if from_wholes else thing.watch.summary()
            values.append(measured(step, thing, few))
        elif isinstance(step, Ratio):
            values.append(Span.point(step))
        else:
            second = values.pop()
            first = values.pop()
            combine = _SIGNS[step]
            values.append(combine(first, second))
    return values[0]


def _sum(first, second):
    return first + second


def _difference(first, second):
    return first - second


def _product(first, second):
    return first * second


def _least(first, second):
    return first.least(second)


def _greatest(first, second):
    return first.greatest(second)


def _at_most(first, second):
    return first.at_most(second)


_SIGNS = {
    "+": _sum,
    "-": _difference,
    "*": _product,
    "least": _least,
    "greatest": _greatest,
    "<=": _at_most,
}
