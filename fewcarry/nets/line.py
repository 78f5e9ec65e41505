"""Lines: what joins two nodes of a net."""

from fewcarry.books.labels import is_label
from fewcarry.exact.errors import BadLabel, BadNode, BadWeight, Loop


class Line:
    """Joins two different nodes, with a strength above zero."""

    def __init__(self, label, first, second, strength):
        if not is_label(label):
            raise BadLabel(label)
        check_node(first)
        check_node(second)
        if first == second:
            raise Loop(label)
        if strength.sign() <= 0:
            raise BadWeight(label)
        self.label = label
        self.first = first
        self.second = second
        self.strength = strength

    def __eq__(self, other):
        return (isinstance(other, Line) and self.label == other.label and self.first == other.first
                and self.second == other.second and self.strength == other.strength)


def check_node(node):
    """Refuse a text that does not have the form of a node, which is that of a label."""
    if not is_label(node):
        raise BadNode(node)
