"""The lines of the written form of a book."""

from fewcarry.books.load import Load
from fewcarry.exact.errors import BadBook
from fewcarry.exact.ratio import Ratio
from fewcarry.exact.whole import read_whole


def written_load(load):
    """The line of a load, such as a1 3/2: 1 0 -4."""
    numbers = " ".join([str(number) for number in load.numbers])
    return f"{load.label} {load.weight.text()}: {numbers}"


def read_load(line):
    """The load whose line this is; for every other line one of several errors."""
    head, _, numbers = line.partition(": ")
    label, _, weight = head.partition(" ")
    return Load(label, Ratio.read(weight), [read_whole(word) for word in numbers.split(" ")])


def read_width(line):
    """The number in the first line of a book; for a line of another form one of several errors."""
    word, _, width = line.partition(" ")
    if word != "book":
        raise BadBook(1)
    return read_whole(width)
