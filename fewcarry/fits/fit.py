"""Best fits: the shares of the given columns that come nearest to the wanted one."""

from fewcarry.books.balance import value_at
from fewcarry.books.book import Book
from fewcarry.books.load import Load
from fewcarry.exact.errors import BadShape
from fewcarry.exact.ratio import Ratio
from fewcarry.grids.solving import solution


def cost_of(book, shares):
    """The weighted sum of the squares of what the loads miss with these shares."""
    check_given(book)
    # It is the energy in the shares with the wanted column taken away once.
    return value_at(book, [*shares, Ratio(-1)])


def given_part(book):
    """The book without the last column."""
    check_given(book)
    return Book(book.width - 1, [Load(load.label, load.weight, load.numbers[:-1]) for load in book])


class Fit:
    """The shares with the least cost, that cost, and what each load misses with them."""

    def __init__(self, book):
        check_given(book)
        self.shares = _best_shares(book)
        self.least_cost = cost_of(book, self.shares)
        self.misses = {load.label: _miss(load, self.shares) for load in book}


def check_given(book):
    """Refuse a book that has no column but the wanted one."""
    if book.width < 2:
        raise BadShape()


def _best_shares(book):
    wanted = book.width - 1
    # Which columns are independent does not depend on those behind them.
    places = [place for place in book.columns() if place < wanted]
    square = book.square()
    column = solution(square.part(places, places), square.part(places, [wanted]))
    shares = [Ratio(0) for _ in range(wanted)]
    for k, place in enumerate(places):
        shares[place] = column[k, 0]
    return tuple(shares)


def _miss(load, shares):
    # The wanted number, the last one, has no share.
    total = Ratio(-load.numbers[-1])
    for number, share in zip(load.numbers, shares):
        total = total + Ratio(number) * share
    return total
