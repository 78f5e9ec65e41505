"""Streams: few loads that carry all loads that were fed."""

from fewcarry.books.book import Book
from fewcarry.books.load import MOST_WIDTH
from fewcarry.exact.errors import BadShape, CarryError, OutOfBounds, Refused, TwinLabel
from fewcarry.exact.extremes import greater
from fewcarry.exact.ratio import Ratio
from fewcarry.streams.merging import side_by_side, thinned
from fewcarry.thins.bars import check_q
from fewcarry.thins.fewest import Few

_MOST_BLOCK = 50


class Stream:
    """Keeps a buffer of fewer than `block` loads, and pieces that carry all loads ahead of them."""

    def __init__(self, width, block, q):
        if not 1 <= width <= MOST_WIDTH:
            raise OutOfBounds(width)
        if not 1 <= block <= _MOST_BLOCK:
            raise OutOfBounds(block)
        check_q(q)
        self.width = width
        self.block = block
        self.q = q
        self.count = 0
        # The pieces are pairs of a level and a Few. These two lists are replaced, never modified.
        self._pieces = []
        self._buffer = []
        # The labels of all loads that were fed, also of those that are no longer kept.
        self._fed = {}

    def __iadd__(self, other):
        later = self._copied()
        for at, load in enumerate(other):
            try:
                later.feed(load)
            except CarryError as error:
                raise Refused(at) from error
        self._become(later)
        return self

    def feed(self, load):
        """Take in a load at the end of the buffer; a full buffer becomes a piece."""
        if len(load.numbers) != self.width:
            raise BadShape()
        if load.label in self._fed:
            raise TwinLabel(load.label)
        pieces = self._pieces
        buffer = [*self._buffer, load]
        if len(buffer) == self.block:
            pieces = _settled([*pieces, (0, Few(Book(self.width, buffer), Ratio(1)))], self.q)
            buffer = []
        # Nothing is refused from here on, so only now the stream changes.
        self._pieces = pieces
        self._buffer = buffer
        self._fed[load.label] = True
        self.count = self.count + 1

    def levels(self):
        """The levels of the pieces, in their order."""
        return [level for level, _ in self._pieces]

    def summary(self):
        """The Few of the loads of all pieces and of the buffer."""
        loads = []
        factor = Ratio(1)
        for _, few in self._pieces:
            loads.extend(few.book.loads)
            factor = greater(factor, few.factor)
        return Few(Book(self.width, [*loads, *self._buffer]), factor)

    def _copied(self):
        copied = Stream(self.width, self.block, self.q)
        copied._become(self)
        return copied

    def _become(self, other):
        self.count = other.count
        self._pieces = other._pieces
        self._buffer = other._buffer
        self._fed = dict(other._fed)


def _settled(pieces, q):
    # A new list, in which no two pieces at the end have the same level.
    settled = list(pieces)
    while len(settled) > 1 and settled[-1][0] == settled[-2][0]:
        level, younger = settled.pop()
        _, elder = settled.pop()
        settled.append((level + 1, thinned(side_by_side(elder, younger), q)))
    return settled
