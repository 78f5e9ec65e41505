"""Thinning: the few loads of a book, with new weights, that carry the whole book."""

from fewcarry.exact.errors import TooHeavy
from fewcarry.thins.bars import Bars
from fewcarry.thins.stand import Stand

_MOST_WORK = 300000


class Thinning:
    """All steps of a thinning of a book with the parameter `q`, and the few loads that it ends with."""

    def __init__(self, book, q):
        rank = book.rank()
        bars = Bars(q, rank)
        work = bars.steps * (len(book) * rank ** 2 + rank ** 3)
        if work > _MOST_WORK:
            raise TooHeavy(work)
        choices = []
        stand = Stand(book, bars, 0, {})
        for _ in range(bars.steps):
            choice = stand.choice()
            choices.append(choice)
            stand = stand.following(choice.label, choice.amount)
        self.book = book
        self.bars = bars
        self.choices = tuple(choices)
        self.few = _carrying(stand)
        self.factor = bars.factor

    def stands(self):
        """The stands from the first to the last one."""
        stand = Stand(self.book, self.bars, 0, {})
        yield stand
        for choice in self.choices:
            stand = stand.following(choice.label, choice.amount)
            yield stand


def _carrying(stand):
    # The last floor lies that many times above the whole book, so this brings it down to it.
    floor = stand.bars.floor(stand.step)
    weights = {}
    for label, amount in stand.amounts.items():
        weights[label] = (amount * stand.book.load(label).weight).divided(floor)
    return stand.book.reweighed(weights)
