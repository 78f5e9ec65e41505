"""The moments of a thinning, and the choices that lead from each of them to the next one."""

from fewcarry.exact.errors import BadFactor, BadShape, NoChoice, NoEnergy, NoStep, OutOfBounds
from fewcarry.exact.ratio import Ratio
from fewcarry.exact.simplest import simplest
from fewcarry.grids.weighted import weighted_square
from fewcarry.thins.bars import Bars
from fewcarry.thins.potentials import ceiling_potential, floor_potential
from fewcarry.thins.room import ceiling_room, floor_room
from fewcarry.thins.scorings import ceiling_scoring, floor_scoring


class Choice:
    """The load that is picked at a stand, with its two scores, and the amount that it is given."""

    def __init__(self, label, low, high):
        self.label = label
        self.low = low
        self.high = high
        self.rate = simplest(low, high)
        self.amount = Ratio(1).divided(self.rate)


class Stand:
    """A moment of a thinning: the amounts of the loads that were picked in the steps so far."""

    def __init__(self, book, bars, step, amounts):
        if bars.dimension != book.rank():
            raise BadShape()
        if not 0 <= step <= bars.steps:
            raise OutOfBounds(step)
        for label, amount in amounts.items():
            # Only its error is wanted.
            book.load(label)
            if amount.sign() <= 0:
                raise BadFactor(amount)
        self.book = book
        self.bars = bars
        self.step = step
        self.amounts = {load.label: amounts[load.label] for load in book if load.label in amounts}
        self.chosen = _chosen_grid(book, self.amounts)
        ceiling_room(book.core(), self.chosen, bars.ceiling(step))
        floor_room(book.core(), self.chosen, bars.floor(step))

    @classmethod
    def start(cls, book, q):
        """The stand at step 0, without amounts."""
        return cls(book, Bars(q, book.rank()), 0, {})

    def potentials(self):
        """The ceiling potential and the floor potential at the bars of this step."""
        core = self.book.core()
        return (ceiling_potential(core, self.chosen, self.bars.ceiling(self.step)),
                floor_potential(core, self.chosen, self.bars.floor(self.step)))

    def scores(self, label):
        """The ceiling score and the floor score of a load from the bars of this step to the next ones."""
        load = self.book.load(label)
        self._check_step()
        if not _has_energy(load):
            raise NoEnergy(label)
        ceiling, floor = self._scorings()
        return self._score(ceiling, load), self._score(floor, load)

    def choice(self):
        """The choice of the load whose floor score is above its ceiling score the most."""
        self._check_step()
        ceiling, floor = self._scorings()
        gap = floor - ceiling
        # All differences times one number are in the same order, and whole forms have no long bottoms.
        gains = gap.scaled(Ratio(gap.over))
        best = None
        most = None
        for load in self.book:
            gain = self._score(gains, load)
            if _has_energy(load) and (best is None or gain.compare(most) > 0):
                best = load
                most = gain
        # Before the last step the rank is not 0, so some load has energy.
        if most.sign() < 0:
            raise NoChoice()
        return Choice(best.label, self._score(ceiling, best), self._score(floor, best))

    def following(self, label, amount):
        """The stand of the next step, in which the amount is added to that of the load."""
        # Only its error is wanted.
        self.book.load(label)
        if amount.sign() <= 0:
            raise BadFactor(amount)
        self._check_step()
        amounts = dict(self.amounts)
        amounts[label] = amounts.get(label, Ratio(0)) + amount
        return Stand(self.book, self.bars, self.step + 1, amounts)

    def _check_step(self):
        if self.step == self.bars.steps:
            raise NoStep()

    def _scorings(self):
        bars = self.bars
        core = self.book.core()
        # The floor comes first, as only the next floor can be too near.
        floor = floor_scoring(core, self.chosen, bars.floor(self.step), bars.floor(self.step + 1))
        ceiling = ceiling_scoring(core, self.chosen, bars.ceiling(self.step), bars.ceiling(self.step + 1))
        return ceiling, floor

    def _score(self, scoring, load):
        row = self.book.reduced(load.label)
        return load.weight * scoring.form(row, row)


def _chosen_grid(book, amounts):
    loads = [book.load(label) for label in amounts]
    weights = [amounts[load.label] * load.weight for load in loads]
    return weighted_square(book.rank(), weights, [book.reduced(load.label) for load in loads])


def _has_energy(load):
    return any([number != 0 for number in load.numbers])
