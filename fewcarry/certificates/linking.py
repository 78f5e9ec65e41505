"""Claims put together, and with them their certificates."""

from fewcarry.certificates.certificate import Certificate
from fewcarry.certificates.claim import Claim
from fewcarry.certificates.judging import check
from fewcarry.exact.errors import BadLink, Unfit
from fewcarry.exact.extremes import greater, lesser
from fewcarry.exact.ratio import Ratio
from fewcarry.grids.squares import Squares


def chained(first, second):
    """The claim that the few of the second claim carry the whole of the first one."""
    if first.few != second.whole:
        raise BadLink()
    return Claim(second.few, first.whole, first.low * second.low, first.high * second.high)


def chained_certificate(first, one, second, two):
    """The certificate for the chained claims."""
    chained(first, second)
    _check_fits(first, one)
    _check_fits(second, two)
    return _certificate(
        two,
        [*two.low_squares.terms, *_times(one.low_squares.terms, second.low)],
        [*two.high_squares.terms, *_times(one.high_squares.terms, second.high)])


def beside(first, second):
    """The claim that the few of both claims together carry the wholes of both together."""
    few = first.few + second.few
    return Claim(few, first.whole + second.whole, lesser(first.low, second.low), greater(first.high, second.high))


def beside_certificate(first, one, second, two):
    """The certificate for the claims beside each other."""
    both = beside(first, second)
    _check_fits(first, one)
    _check_fits(second, two)
    # Each claim has left over what its bounds are closer than those of both.
    return _certificate(
        one,
        [*one.low_squares.terms, *two.low_squares.terms,
         *_times(_terms_of(first.whole), first.low - both.low),
         *_times(_terms_of(second.whole), second.low - both.low)],
        [*one.high_squares.terms, *two.high_squares.terms,
         *_times(_terms_of(first.whole), both.high - first.high),
         *_times(_terms_of(second.whole), both.high - second.high)])


def scaled_claim(claim, factor):
    """The claim for the few with all weights multiplied by the factor."""
    return Claim(claim.few.scaled(factor), claim.whole, claim.low * factor, claim.high * factor)


def scaled_certificate(claim, one, factor):
    """The certificate for the scaled claim."""
    scaled_claim(claim, factor)
    _check_fits(claim, one)
    return _certificate(one, _times(one.low_squares.terms, factor), _times(one.high_squares.terms, factor))


def _check_fits(claim, certificate):
    if not check(claim, certificate):
        raise Unfit()


def _certificate(like, low_terms, high_terms):
    width = like.low_squares.width
    return Certificate(Squares(width, low_terms), Squares(width, high_terms))


def _times(terms, factor):
    # A coefficient of zero is none.
    if factor.sign() == 0:
        return []
    return [(coefficient * factor, row) for coefficient, row in terms]


def _terms_of(book):
    return [(load.weight, [Ratio(number) for number in load.numbers]) for load in book]
