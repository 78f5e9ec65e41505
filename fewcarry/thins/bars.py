"""The numbers of a thinning: its steps, and the two bars that rise with them."""

from fewcarry.exact.errors import BadQ, OutOfBounds
from fewcarry.exact.ratio import Ratio

_MOST_Q = 4
_MOST_Q_BOTTOM = 12
_MOST_DIMENSION = 12
_MOST_MANY = 200


class Bars:
    """The numbers for the parameter `q` and a book of rank `dimension`."""

    def __init__(self, q, dimension):
        check_q(q)
        if not 0 <= dimension <= _MOST_DIMENSION:
            raise OutOfBounds(dimension)
        one = Ratio(1)
        self.q = q
        self.dimension = dimension
        self.steps = (q * q * Ratio(dimension)).rounded_up()
        self.ceiling_step = (q + one).divided(q - one)
        self.floor_step = one
        self.ceiling_limit = (q - one).divided(q * (q + one))
        self.floor_limit = one.divided(q)
        self.bound = self.ceiling_step * self.ceiling_step
        self.factor = one
        # Without a dimension both last bars are 0.
        if dimension > 0:
            self.factor = self.ceiling(self.steps).divided(self.floor(self.steps))

    def ceiling(self, step):
        """The upper bar after a number of steps."""
        self._check_step(step)
        return self.ceiling_step * (self._start() + Ratio(step))

    def floor(self, step):
        """The lower bar after a number of steps."""
        self._check_step(step)
        return Ratio(step) - self._start()

    def finest(self, many):
        """The least whole number that is not below many * q * (q + 1) * (q * dimension + 1) / (q - 1)."""
        if not 0 <= many <= _MOST_MANY:
            raise OutOfBounds(many)
        return (Ratio(many) * self.q * self.ceiling_step * (self._start() + Ratio(1))).rounded_up()

    def _start(self):
        return self.q * Ratio(self.dimension)

    def _check_step(self, step):
        if not 0 <= step <= self.steps:
            raise OutOfBounds(step)


def check_q(q):
    """Refuse a parameter that is not above 1 and at most 4, or whose bottom is above 12."""
    if q.compare(Ratio(1)) <= 0 or q.compare(Ratio(_MOST_Q)) > 0 or q.bottom > _MOST_Q_BOTTOM:
        raise BadQ(q)
