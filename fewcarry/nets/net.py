"""Nets: nodes and the lines that join them."""

from fewcarry.books.book import Book
from fewcarry.books.load import Load
from fewcarry.exact.errors import BadNet, BadShape, CarryError, NoLabel, NoNode, TooMany, TwinLabel, TwinNode
from fewcarry.nets.line import Line, check_node
from fewcarry.nets.written import read_line, read_nodes, written_line

_MOST_NODES = 12
_MOST_LINES = 200


class Net:
    """1 to 12 nodes and at most 200 lines, both in an order."""

    def __init__(self, nodes, lines):
        if not 1 <= len(nodes) <= _MOST_NODES:
            raise BadShape()
        self._places = _places_of(nodes)
        if len(lines) > _MOST_LINES:
            raise TooMany(_MOST_LINES)
        by_label = {}
        for line in lines:
            self.place_of(line.first)
            self.place_of(line.second)
            if line.label in by_label:
                raise TwinLabel(line.label)
            by_label[line.label] = line
        self.nodes = tuple(nodes)
        self.lines = tuple(lines)
        self._by_label = by_label
        # No call changes a net, so this is worked out once, when it is asked for first.
        self._book = None

    @classmethod
    def read(cls, text):
        """The net whose written form the text is."""
        texts = text.split("\n")
        lines = []
        for k in range(len(texts)):
            # Each line is judged with the lines ahead of it, which are a net already.
            try:
                if k > 0:
                    lines.append(read_line(texts[k]))
                net = cls(read_nodes(texts[0]), lines)
            except CarryError:
                raise BadNet(k + 1) from None
        return net

    def __len__(self):
        return len(self.lines)

    def __iter__(self):
        return iter(self.lines)

    def __eq__(self, other):
        return isinstance(other, Net) and self.nodes == other.nodes and self.lines == other.lines

    def place_of(self, node):
        """The place of a node among the nodes."""
        if node not in self._places:
            raise NoNode(node)
        return self._places[node]

    def find_line(self, label):
        """The line with this label."""
        if label not in self._by_label:
            raise NoLabel(label)
        return self._by_label[label]

    def as_book(self):
        """The book with a column for each node, and for each line a load with 1 and -1 at its ends."""
        if self._book is None:
            self._book = Book(len(self.nodes), [self.load_of(line) for line in self.lines])
        return self._book

    def reweighed(self, strengths):
        """The net of the lines whose labels the dict has, with the strengths that it gives them."""
        for label in strengths:
            self.find_line(label)
        lines = [line for line in self.lines if line.label in strengths]
        return Net(self.nodes, [Line(line.label, line.first, line.second, strengths[line.label]) for line in lines])

    def without(self, label):
        """The net with one line left out."""
        left_out = self.find_line(label)
        return Net(self.nodes, [line for line in self.lines if line.label != left_out.label])

    def with_line(self, line):
        """The net with one more line at the end."""
        return Net(self.nodes, [*self.lines, line])

    def text(self):
        """The written form: the nodes, and a line of the text for each line of the net."""
        return "\n".join([" ".join(["nodes", *self.nodes]), *[written_line(line) for line in self.lines]])

    def load_of(self, line):
        """The load of the book that stands for a line between nodes of the net."""
        numbers = [0 for _ in self.nodes]
        numbers[self.place_of(line.first)] = 1
        numbers[self.place_of(line.second)] = -1
        return Load(line.label, line.strength, numbers)


def _places_of(nodes):
    places = {}
    for place, node in enumerate(nodes):
        check_node(node)
        if node in places:
            raise TwinNode(node)
        places[node] = place
    return places
