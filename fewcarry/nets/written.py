"""The lines of the written form of a net."""

from fewcarry.exact.errors import BadShape
from fewcarry.exact.ratio import Ratio
from fewcarry.nets.line import Line


def written_line(line):
    """The written form of a line of a net, such as a1 u v 3/2."""
    return f"{line.label} {line.first} {line.second} {line.strength.text()}"


def read_line(text):
    """The line of a net whose written form this is; for every other text one of several errors."""
    words = text.split(" ")
    if len(words) != 4:
        raise BadShape()
    return Line(words[0], words[1], words[2], Ratio.read(words[3]))


def read_nodes(text):
    """What the first line of a net has as nodes; for a line of another form BadShape."""
    words = text.split(" ")
    if words[0] != "nodes":
        raise BadShape()
    return words[1:]
