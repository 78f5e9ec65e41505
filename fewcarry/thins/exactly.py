"""A few loads of a book, with new weights, that have exactly its energies."""

from fewcarry.exact.errors import TooHeavy
from fewcarry.thins.frame import Frame

_MOST_WORK = 300000


def square_rank(book):
    """The rank of the table that has the squares of the loads as rows."""
    frame = Frame(most_squares(book.rank()))
    many = 0
    for load in book:
        shares = frame.shares_of(_squares(book.reduced(load.label)))
        place = frame.free_place(shares)
        if place is not None:
            frame.keep(place, shares)
            many = many + 1
    return many


def exact_few(book):
    """The book of some of the loads, with new weights, that has the same energies."""
    size = most_squares(book.rank())
    work = len(book) * size ** 2
    if work > _MOST_WORK:
        raise TooHeavy(work)
    reduction = Reduction(size)
    for load in book:
        reduction.take_in(load, _squares(book.reduced(load.label)))
    return book.reweighed(reduction.kept_weights())


def most_squares(rank):
    """How many loads of a book of this rank can have independent squares."""
    return rank * (rank + 1) // 2


class Reduction:
    """The kept loads, with independent squares, that have the energies of all loads so far."""

    def __init__(self, size):
        self._frame = Frame(size)
        # The kept loads and their weights by the places of their squares in the frame.
        self._labels = {}
        self._weights = {}

    def take_in(self, load, squares):
        """Take in the next load."""
        shares = self._frame.shares_of(squares)
        place = self._frame.free_place(shares)
        if place is not None:
            self._keep(place, shares, load.label, load.weight)
            return
        multiples = {at: self._frame.multiple(shares[at]) for at in self._labels}
        handed = self._most_to_hand(load.weight, multiples)
        emptied = self._hand_over(handed, multiples)
        rest = load.weight - handed
        if rest.sign() > 0:
            # The first load without a weight had a share below zero, so the frame has room there.
            self._keep(emptied[0], shares, load.label, rest)

    def kept_weights(self):
        """The weights of the kept loads by their labels."""
        return {self._labels[at]: self._weights[at] for at in self._labels}

    def _keep(self, place, shares, label, weight):
        self._frame.keep(place, shares)
        self._labels[place] = label
        self._weights[place] = weight

    def _most_to_hand(self, weight, multiples):
        most = weight
        for at, multiple in multiples.items():
            if multiple.sign() < 0:
                bound = self._weights[at].divided(-multiple)
                most = bound if bound.compare(most) < 0 else most
        return most

    def _hand_over(self, handed, multiples):
        # Returns the places of the loads that have nothing left and are dropped.
        for at, multiple in multiples.items():
            self._weights[at] = self._weights[at] + multiple * handed
        emptied = [at for at in multiples if self._weights[at].sign() == 0]
        for at in emptied:
            self._frame.drop(at)
            del self._labels[at], self._weights[at]
        return emptied


def _squares(row):
    # Those of the reduced numbers will do: all loads have their squares from these in the same way.
    return [row[i] * row[j] for i in range(len(row)) for j in range(i, len(row))]
