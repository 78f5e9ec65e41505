"""How a book takes a push, and the power of it."""

from fewcarry.exact.bottoms import over_one_bottom
from fewcarry.exact.errors import BadShape, OutOfReach
from fewcarry.exact.ratio import Ratio
from fewcarry.grids.grid import Grid
from fewcarry.grids.solving import solution


def balance(book, push):
    """The Ratios, one for each column, that the square grid of the book turns into the push."""
    if len(push) != book.width:
        raise BadShape()
    places = book.columns()
    column = solution(book.core(), Grid([[push[place]] for place in places]))
    shares = [Ratio(0) for _ in push]
    for k, place in enumerate(places):
        shares[place] = column[k, 0]
    # The other columns have had no say so far.
    taken = book.square() * Grid.of([[share] for share in shares])
    if taken != Grid([[number] for number in push]):
        raise OutOfReach(push)
    return shares


def power_of(book, push):
    """The sum of the products of the push with its balance."""
    power = Ratio(0)
    for number, share in zip(push, balance(book, push)):
        power = power + Ratio(number) * share
    return power


def value_at(book, numbers):
    """The worth of the square grid of the book for a list of Ratios."""
    # Ahead of the common bottom, which many Ratios of a refused list would make very long.
    if len(numbers) != book.width:
        raise BadShape()
    tops, bottom = over_one_bottom(numbers)
    return book.square().form(tops, tops).divided(Ratio(bottom * bottom))
