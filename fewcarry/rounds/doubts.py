"""What is left to doubt after some rounds, and how many rounds leave little to doubt."""

from fewcarry.exact.errors import BadFactor, OutOfBounds
from fewcarry.exact.ratio import Ratio
from fewcarry.rounds.kinds import MOST_MANY, check_many, first_kind

_MOST_FACTOR = 400
_MOST_GRAIN = 1000000


def doubt(factor, many):
    """The greatest share of the power that the energy of what is missing may be after `many` rounds."""
    check_factor(factor)
    check_many(many)
    one = Ratio(1)
    if factor == one:
        return Ratio(0) if many > 0 else one
    value = first_kind((factor + one).divided(factor - one), many)
    return one.divided(value * value)


def rounds_needed(factor, grain):
    """The least number of rounds with a doubt of at most 1 / grain."""
    check_factor(factor)
    if not 1 <= grain <= _MOST_GRAIN:
        raise OutOfBounds(grain)
    low = 0
    # So many are enough for every factor and grain, and the doubt never grows.
    high = MOST_MANY
    while low < high:
        middle = (low + high) // 2
        if doubt(factor, middle).compare(Ratio(1, grain)) <= 0:
            high = middle
        else:
            low = middle + 1
    return low


def check_factor(factor):
    """Refuse a factor that is not from 1 to 400."""
    if factor.compare(Ratio(1)) < 0 or factor.compare(Ratio(_MOST_FACTOR)) > 0:
        raise BadFactor(factor)
