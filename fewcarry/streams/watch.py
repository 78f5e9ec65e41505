"""Watches: few loads that carry a book whose loads come and go."""

from fewcarry.books.book import Book
from fewcarry.exact.errors import BadFactor, BadShape, TwinLabel
from fewcarry.exact.ratio import Ratio
from fewcarry.streams.merging import side_by_side
from fewcarry.thins.bars import Bars
from fewcarry.thins.fewest import Few, fewest


class Watch:
    """Follows the book `whole`; its summary carries it with a factor of at most the limit."""

    def __init__(self, book, q, limit):
        _check_limit(q, limit)
        self._few = fewest(book, q)
        self._limit = limit
        self.whole = book
        self.q = q
        self.rebuilds = 0

    def __iadd__(self, other):
        self.put(other)
        return self

    def __isub__(self, other):
        self.drop(other)
        return self

    @property
    def limit(self):
        """What the factor of the summary is never above."""
        return self._limit

    @limit.setter
    def limit(self, value):
        _check_limit(self.q, value)
        if self._few.factor.compare(value) > 0:
            self.rebuild()
        self._limit = value

    def summary(self):
        """The Few that carries the whole."""
        return self._few

    def put(self, load):
        """Add a load to the whole and to the summary."""
        if len(load.numbers) != self.whole.width:
            raise BadShape()
        if load.label in self.whole:
            raise TwinLabel(load.label)
        more = Book(self.whole.width, [load])
        self._follow(self.whole + more, Few(self._few.book + more, self._few.factor))

    def drop(self, label):
        """Take a load out of the whole and out of the summary."""
        whole = self.whole.without(label)
        factor = self._factor_without(label)
        if factor is None:
            self._start_over(whole)
            return
        book = self._few.book
        self._follow(whole, Few(book.without(label) if label in book else book, factor))

    def rebuild(self):
        """Make the summary of the whole anew."""
        self._start_over(self.whole)

    def restrict(self, limit):
        """Assign the limit."""
        self.limit = limit

    def take(self, other):
        """Add what another watch follows to the whole, and its summary to the summary."""
        self._follow(self.whole + other.whole, side_by_side(self._few, other.summary()))

    def twin(self):
        """A watch of its own with the same whole, summary and limit."""
        # The watch of a book without loads has the least to work out.
        same = Watch(Book(self.whole.width, []), self.q, self._limit)
        same.whole = self.whole
        same.rebuilds = self.rebuilds
        same._few = self._few
        return same

    def _follow(self, whole, few):
        if few.factor.compare(self._limit) > 0:
            self._start_over(whole)
            return
        self.whole = whole
        self._few = few

    def _start_over(self, whole):
        # What may be refused comes first, so that nothing has changed then.
        few = fewest(whole, self.q)
        self.whole = whole
        self._few = few
        self.rebuilds = self.rebuilds + 1

    def _factor_without(self, label):
        # The factor of the summary without the load, or None if it may not carry the whole without it.
        one = Ratio(1)
        factor = self._few.factor
        pull = self.whole.pull(label)
        if pull == one:
            return factor
        kept = self._few.book.load(label).weight if label in self._few.book else Ratio(0)
        share = kept.divided(self.whole.load(label).weight)
        if share.compare(one) > 0:
            return None
        return factor + ((factor - share) * pull).divided(one - pull)


def _check_limit(q, limit):
    if limit.compare(Bars(q, 0).bound) < 0:
        raise BadFactor(limit)
