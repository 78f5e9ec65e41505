"""Certificates: sums of squares that prove claims."""

from fewcarry.certificates.written import read_term, written_term
from fewcarry.exact.errors import BadCertificate, BadShape, CarryError
from fewcarry.exact.whole import read_whole
from fewcarry.grids.squares import Squares


class Certificate:
    """The squares for the low grid and those for the high grid of a claim."""

    def __init__(self, low_squares, high_squares):
        if low_squares.width != high_squares.width:
            raise BadShape()
        self.low_squares = low_squares
        self.high_squares = high_squares

    @classmethod
    def read(cls, text):
        """The certificate whose written form the text is."""
        lines = text.split("\n")
        width = _read_width(lines[0])
        _check_line(lines, 1, "low")
        low_terms = _read_terms(lines[2:], width)
        middle = 2 + len(low_terms)
        _check_line(lines, middle, "high")
        high_terms = _read_terms(lines[middle + 1:], width)
        end = middle + 1 + len(high_terms)
        if end < len(lines):
            raise BadCertificate(end + 1)
        return cls(Squares(width, low_terms), Squares(width, high_terms))

    def __eq__(self, other):
        # Equal written forms are equal fields.
        return (isinstance(other, Certificate) and self.low_squares.width == other.low_squares.width
                and self.low_squares.terms == other.low_squares.terms
                and self.high_squares.terms == other.high_squares.terms)

    def text(self):
        """The written form: the width, and a line for each term below the lines low and high."""
        return "\n".join([
            f"width {self.low_squares.width}",
            "low",
            *[written_term(term) for term in self.low_squares.terms],
            "high",
            *[written_term(term) for term in self.high_squares.terms],
        ])


def _read_width(line):
    word, _, digits = line.partition(" ")
    try:
        width = read_whole(digits)
        # It is the bounds of this width that are wanted.
        Squares(width, [])
    except CarryError:
        raise BadCertificate(1) from None
    if word != "width":
        raise BadCertificate(1)
    return width


def _check_line(lines, place, wanted):
    if place == len(lines) or lines[place] != wanted:
        raise BadCertificate(place + 1)


def _read_terms(lines, width):
    # The terms that stand at the beginning of the lines.
    terms = []
    for line in lines:
        try:
            terms.append(read_term(line, width))
        except CarryError:
            return terms
    return terms
