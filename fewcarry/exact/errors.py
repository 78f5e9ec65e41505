"""The errors of the program: one class for each kind of failure."""


class CarryError(ValueError):
    """The base of all errors of the program."""


class ZeroBottom(CarryError):
    """A bottom, or a divisor, is zero."""


class OutOfBounds(CarryError):
    """A number lies outside of its bounds."""

    def __init__(self, value):
        self.value = value


class BadNumber(CarryError):
    """A text is not the written form of a Ratio."""

    def __init__(self, given):
        self.given = given


class Crossed(CarryError):
    """The low end lies above, or not below, the high one."""

    def __init__(self, low, high):
        self.low = low
        self.high = high


class Apart(CarryError):
    """Two spans have no number in common."""


class BadShape(CarryError):
    """A size is not allowed, or sizes do not fit."""


class BadPlace(CarryError):
    """There is nothing at a place, or at a pair of places."""

    def __init__(self, place):
        # A pair may be handed in as a list, which must not be shared.
        self.place = tuple(place) if isinstance(place, list) else place


class NoInverse(CarryError):
    """A grid has no inverse."""


class NotSymmetric(CarryError):
    """An entry differs from the one with row and column exchanged."""

    def __init__(self, row, column):
        self.row = row
        self.column = column


class BelowZero(CarryError):
    """A grid has a worth below zero in a direction."""

    def __init__(self, direction):
        self.direction = tuple(direction)


class NotAbove(CarryError):
    """A grid is not above zero."""


class BadTerm(CarryError):
    """The coefficient of a term is not above zero."""

    def __init__(self, place):
        self.place = place


class NotWhole(CarryError):
    """A grid has entries that are not whole numbers."""


class BadLabel(CarryError):
    """A text does not have the form of a label."""

    def __init__(self, label):
        self.label = label


class TwinLabel(CarryError):
    """A label is there already."""

    def __init__(self, label):
        self.label = label


class NoLabel(CarryError):
    """There is no such label."""

    def __init__(self, label):
        self.label = label


class BadWeight(CarryError):
    """The weight of a load or a line is not above zero."""

    def __init__(self, label):
        self.label = label


class TooMany(CarryError):
    """There are more things than the most that are allowed."""

    def __init__(self, most):
        self.most = most


class BadFactor(CarryError):
    """A factor is not one that is allowed."""

    def __init__(self, factor):
        self.factor = factor


class NoEnergy(CarryError):
    """All numbers of a load are 0."""

    def __init__(self, label):
        self.label = label


class OutOfReach(CarryError):
    """A book cannot take a push."""

    def __init__(self, push):
        self.push = tuple(push)


class BadBook(CarryError):
    """A line of a text does not fit the written form of a book."""

    def __init__(self, line):
        self.line = line


class BadQ(CarryError):
    """The parameter of a thinning is not one that is allowed."""

    def __init__(self, q):
        self.q = q


class OutOfBars(CarryError):
    """A grid does not lie within the bar of a side."""

    def __init__(self, side):
        self.side = side


class NoStep(CarryError):
    """There is no further step."""


class NoChoice(CarryError):
    """No load can be chosen."""


class TooHeavy(CarryError):
    """A call would take more work than is allowed."""

    def __init__(self, work):
        self.work = work


class NotCarried(CarryError):
    """A claim fails at a side, as a direction shows."""

    def __init__(self, side, direction):
        self.side = side
        self.direction = tuple(direction)


class BadCertificate(CarryError):
    """A line of a text does not fit the written form of a certificate."""

    def __init__(self, line):
        self.line = line


class BadLink(CarryError):
    """Two claims do not share the book that should link them."""


class Unfit(CarryError):
    """A certificate does not fit its claim."""


class BadNode(CarryError):
    """A text does not have the form of a node."""

    def __init__(self, node):
        self.node = node


class NoNode(CarryError):
    """There is no such node."""

    def __init__(self, node):
        self.node = node


class TwinNode(CarryError):
    """A node is there already."""

    def __init__(self, node):
        self.node = node


class Loop(CarryError):
    """A line has the same node at both ends."""

    def __init__(self, label):
        self.label = label


class Uneven(CarryError):
    """The pushes of a piece do not add up to 0."""

    def __init__(self, nodes):
        self.nodes = tuple(nodes)


class Parted(CarryError):
    """Two nodes are in different pieces."""

    def __init__(self, first, second):
        self.first = first
        self.second = second


class BadNet(CarryError):
    """A line of a text does not fit the written form of a net."""

    def __init__(self, line):
        self.line = line


class Dependent(CarryError):
    """A column is not independent."""

    def __init__(self, column):
        self.column = column


class Loose(CarryError):
    """More than one thing of a plan is not used."""

    def __init__(self, places):
        self.places = tuple(places)


class Refused(CarryError):
    """An item of a list was refused."""

    def __init__(self, at):
        self.at = at


class NoName(CarryError):
    """There is no such name."""

    def __init__(self, name):
        self.name = name


class TwinName(CarryError):
    """A name is taken."""

    def __init__(self, name):
        self.name = name


class WrongKind(CarryError):
    """A name stands for a thing of another kind."""

    def __init__(self, name):
        self.name = name


class BadDeed(CarryError):
    """A text does not have the form of a deed."""

    def __init__(self, deed):
        self.deed = deed


class BadQuestion(CarryError):
    """A word of a question cannot stand at its place."""

    def __init__(self, place):
        self.place = place


class NothingToUndo(CarryError):
    """There is no deed to take back."""


class NothingToRedo(CarryError):
    """There is no deed to do again."""
