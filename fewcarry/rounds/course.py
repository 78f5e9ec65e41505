"""The course of the rounds that lead from a few loads to a balance for the whole book."""

from fewcarry.books.balance import balance, power_of, value_at
from fewcarry.certificates.claim import Claim
from fewcarry.certificates.judging import judge
from fewcarry.exact.errors import NoStep, OutOfBounds
from fewcarry.exact.ratio import Ratio
from fewcarry.exact.span import Span
from fewcarry.grids.grid import Grid
from fewcarry.grids.solving import inverse
from fewcarry.rounds.doubts import check_factor, doubt
from fewcarry.rounds.kinds import MOST_MANY, first_kind


class Rounds:
    """Comes nearer to the balance of a push for `whole`, round by round, and solves for the few loads only."""

    def __init__(self, few, whole, push):
        claim = Claim.of(few, whole)
        check_factor(few.factor)
        # Only their errors are wanted.
        judge(claim)
        balance(whole, push)
        self.few = few
        self.whole = whole
        self.push = tuple(push)
        self.many = 0
        self.numbers = tuple([Ratio(0) for _ in push])
        # The numbers are 0 outside the independent columns, which are those of both books.
        # So all is done with columns of as many numbers as the rank.
        self._inverse = inverse(few.book.core())
        self._goal = Grid([[push[place]] for place in whole.columns()])
        self._now = self._goal.scaled(Ratio(0))
        self._before = self._now

    def advance(self):
        """Do a round."""
        if self.many == MOST_MANY:
            raise NoStep()
        following = self._following()
        numbers = [Ratio(0) for _ in self.push]
        for k, place in enumerate(self.whole.columns()):
            numbers[place] = following[k, 0]
        self._before = self._now
        self._now = following
        self.numbers = tuple(numbers)
        self.many = self.many + 1

    def run(self, many):
        """Do rounds until `many` are done."""
        if not self.many <= many <= MOST_MANY:
            raise OutOfBounds(many)
        while self.many < many:
            self.advance()

    def current_doubt(self):
        """The doubt that is left after the rounds done."""
        return doubt(self.few.factor, self.many)

    def power_span(self):
        """A span in which the power of the push for the whole book lies."""
        power = power_of(self.few.book, self.push)
        span = Span(power, power * self.few.factor)
        sure = Ratio(1) - self.current_doubt()
        if sure.sign() == 0:
            return span
        value = Ratio(2) * self._met(self.push) - value_at(self.whole, self.numbers)
        return span & Span(value, value.divided(sure))

    def guess(self, goal):
        """The sum of the products of another push and the numbers."""
        # Only its errors are wanted.
        balance(self.whole, goal)
        return self._met(goal)

    def miss(self, goal):
        """A Ratio that the square of what the guess misses is not above."""
        # The few loads can take the same pushes as the whole book, and refuse the others in the same way.
        power = power_of(self.few.book, goal)
        return self.few.factor * power * self.current_doubt() * self.power_span().high

    def _met(self, goal):
        total = Ratio(0)
        for number, share in zip(goal, self.numbers):
            total = total + Ratio(number) * share
        return total

    def _following(self):
        one = Ratio(1)
        factor = self.few.factor
        left = self._inverse * (self._goal - self.whole.core() * self._now)
        if self.many == 0:
            return left.scaled((factor + factor).divided(factor + one))
        if factor == one:
            return self._now + left
        middle = (factor + one).divided(factor - one)
        later = first_kind(middle, self.many + 1)
        share = Ratio(2) * first_kind(middle, self.many).divided(later)
        moved = self._now.scaled(middle) + left.scaled((factor + factor).divided(factor - one))
        return moved.scaled(share) - self._before.scaled(first_kind(middle, self.many - 1).divided(later))
