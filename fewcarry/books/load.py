"""Loads: the weighted rows of which books consist."""

from fewcarry.books.labels import is_label
from fewcarry.exact.errors import BadLabel, BadShape, BadWeight, OutOfBounds

MOST_WIDTH = 12
_MOST_NUMBER = 9999


class Load:
    """A row of 1 to 12 whole numbers with a label and with a weight above zero."""

    def __init__(self, label, weight, numbers):
        if not is_label(label):
            raise BadLabel(label)
        if weight.sign() <= 0:
            raise BadWeight(label)
        if not 1 <= len(numbers) <= MOST_WIDTH:
            raise BadShape()
        for number in numbers:
            if not -_MOST_NUMBER <= number <= _MOST_NUMBER:
                raise OutOfBounds(number)
        self.label = label
        self.weight = weight
        self.numbers = tuple(numbers)

    def __eq__(self, other):
        return (isinstance(other, Load) and self.label == other.label and self.weight == other.weight
                and self.numbers == other.numbers)
