"""The lines of the written form of a certificate."""

from fewcarry.exact.errors import BadNumber, BadShape
from fewcarry.exact.ratio import Ratio


def written_term(term):
    """The line of a term, such as 3/2: 1 0 -1/4."""
    coefficient, row = term
    return " ".join([f"{coefficient.text()}:", *[ratio.text() for ratio in row]])


def read_term(line, width):
    """The term whose line this is; for every other line one of several errors."""
    head, colon, rest = line.partition(":")
    words = rest.split(" ")
    # There is a space ahead of each number, so the first one of the words is empty.
    if not colon or words[0] or len(words) != width + 1:
        raise BadShape()
    coefficient = Ratio.read(head)
    if coefficient.sign() <= 0:
        raise BadNumber(head)
    return coefficient, [Ratio.read(word) for word in words[1:]]
