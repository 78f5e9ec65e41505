"""Few loads of many books, put together and thinned in the order of a plan."""

from fewcarry.exact.errors import BadPlace, BadShape, Loose, TooMany
from fewcarry.exact.extremes import greater
from fewcarry.exact.ratio import Ratio
from fewcarry.thins.bars import check_q
from fewcarry.thins.fewest import Few, fewest

_MOST_PARTS = 32


def side_by_side(first, second):
    """The Few that carries the sum of the books that the two carry."""
    return Few(first.book + second.book, greater(first.factor, second.factor))


def thinned(few, q):
    """The Few of the fewest loads, which carries what the given one carries."""
    fewer = fewest(few.book, q)
    return Few(fewer.book, fewer.factor * few.factor)


def merge_plan(parts, plan, q):
    """The Few that is left when the pairs of things that the plan tells are put together and thinned."""
    if len(parts) == 0:
        raise BadShape()
    if len(parts) > _MOST_PARTS:
        raise TooMany(_MOST_PARTS)
    loose = _loose_places(len(parts), plan)
    if len(loose) > 1:
        raise Loose(loose)
    check_q(q)
    things = [Few(part, Ratio(1)) for part in parts]
    for first, second in plan:
        things.append(thinned(side_by_side(things[first], things[second]), q))
    return things[loose[0]]


def _loose_places(many, plan):
    # The things that are not used yet; each pair uses two of them and makes another one.
    loose = list(range(many))
    for made, (first, second) in enumerate(plan):
        for place in (first, second):
            if place not in loose:
                raise BadPlace(place)
            loose.remove(place)
        loose.append(many + made)
    return loose
