"""Claims that one book carries another one."""

from fewcarry.exact.errors import BadFactor, BadShape, Crossed
from fewcarry.exact.ratio import Ratio


class Claim:
    """Says that in every direction the energy of `few` is from `low` to `high` times that of `whole`."""

    def __init__(self, few, whole, low, high):
        if few.width != whole.width:
            raise BadShape()
        if low.sign() < 0:
            raise BadFactor(low)
        if low.compare(high) > 0:
            raise Crossed(low, high)
        self.few = few
        self.whole = whole
        self.low = low
        self.high = high

    @classmethod
    def of(cls, few, whole):
        """The claim that the book of a Few carries `whole`, from 1 to its factor."""
        return cls(few.book, whole, Ratio(1), few.factor)

    def low_grid(self):
        """The square grid of `few` minus `low` times that of `whole`."""
        return self.few.square() - self.whole.square().scaled(self.low)

    def high_grid(self):
        """`high` times the square grid of `whole` minus that of `few`."""
        return self.whole.square().scaled(self.high) - self.few.square()
