"""Books: tables of loads, and their energies, square grids and pulls."""

from fewcarry.books.load import MOST_WIDTH, Load
from fewcarry.books.written import read_load, read_width, written_load
from fewcarry.exact.errors import (
    BadBook, BadFactor, BadShape, CarryError, NoLabel, OutOfBounds, TooMany, TwinLabel,
)
from fewcarry.grids.solving import independent_columns, inverse
from fewcarry.grids.weighted import weighted_square

_MOST_LOADS = 200


class Book:
    """At most 200 loads in an order, with different labels and with `width` numbers each."""

    def __init__(self, width, loads):
        if not 1 <= width <= MOST_WIDTH:
            raise OutOfBounds(width)
        if len(loads) > _MOST_LOADS:
            raise TooMany(_MOST_LOADS)
        by_label = {}
        for load in loads:
            if len(load.numbers) != width:
                raise BadShape()
            if load.label in by_label:
                raise TwinLabel(load.label)
            by_label[load.label] = load
        self.width = width
        self.loads = tuple(loads)
        self._by_label = by_label
        # No call changes a book, so these are worked out once, when they are asked for first.
        self._square = None
        self._columns = None
        self._core_inverse = None

    @classmethod
    def read(cls, text):
        """The book whose written form the text is."""
        lines = text.split("\n")
        loads = []
        for k in range(len(lines)):
            # Each line is judged with the lines ahead of it, which are a book already.
            try:
                if k > 0:
                    loads.append(read_load(lines[k]))
                book = cls(read_width(lines[0]), loads)
            except CarryError:
                raise BadBook(k + 1) from None
        return book

    def __len__(self):
        return len(self.loads)

    def __iter__(self):
        return iter(self.loads)

    def __contains__(self, label):
        return label in self._by_label

    def __add__(self, other):
        if self.width != other.width:
            raise BadShape()
        return Book(self.width, self.loads + other.loads)

    def __eq__(self, other):
        return isinstance(other, Book) and self.width == other.width and self.loads == other.loads

    def load(self, label):
        """The load with this label."""
        if label not in self._by_label:
            raise NoLabel(label)
        return self._by_label[label]

    def scaled(self, factor):
        """The book with all weights multiplied by a Ratio above zero."""
        if factor.sign() <= 0:
            raise BadFactor(factor)
        return Book(self.width, [Load(load.label, load.weight * factor, load.numbers) for load in self.loads])

    def without(self, label):
        """The book with one load left out."""
        left_out = self.load(label)
        return Book(self.width, [load for load in self.loads if load.label != left_out.label])

    def reweighed(self, weights):
        """The book of the loads whose labels the dict has, with the weights that it gives them."""
        for label in weights:
            self.load(label)
        loads = [load for load in self.loads if load.label in weights]
        return Book(self.width, [Load(load.label, weights[load.label], load.numbers) for load in loads])

    def energy(self, direction):
        """The weighted sum of the squares of the products of the loads with the direction."""
        return self.square().form(direction, direction)

    def square(self):
        """The symmetric grid whose worth is the energy."""
        if self._square is None:
            weights = [load.weight for load in self.loads]
            self._square = weighted_square(self.width, weights, [load.numbers for load in self.loads])
        return self._square

    def columns(self):
        """The places of the independent columns of the square grid, in ascending order."""
        if self._columns is None:
            self._columns = tuple(independent_columns(self.square()))
        return list(self._columns)

    def rank(self):
        """The number of independent columns."""
        return len(self.columns())

    def core(self):
        """The part of the square grid in the independent rows and columns."""
        places = self.columns()
        return self.square().part(places, places)

    def reduced(self, label):
        """The numbers of a load in the independent columns."""
        return self._reduced(self.load(label))

    def pull(self, label):
        """The greatest share that a load has of the energy in any direction."""
        return self._pull(self.load(label))

    def pulls(self):
        """The pulls of all loads, in their order."""
        return [self._pull(load) for load in self.loads]

    def text(self):
        """The written form: a line for the width, and one for each load."""
        return "\n".join([f"book {self.width}", *[written_load(load) for load in self.loads]])

    def _reduced(self, load):
        return [load.numbers[place] for place in self.columns()]

    def _pull(self, load):
        if self._core_inverse is None:
            self._core_inverse = inverse(self.core())
        row = self._reduced(load)
        return load.weight * self._core_inverse.form(row, row)


def joined(book, *others):
    """The book with the loads of all these books, added one after the other."""
    total = Book(book.width, book.loads)
    for other in others:
        total = total + other
    return total
