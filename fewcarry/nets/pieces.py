"""The pieces of a net, and the lines that hold them together."""


def pieces(net):
    """The pieces, each a list of nodes in the order of the net, in the order of their first nodes."""
    marks = {node: node for node in net.nodes}
    for line in net:
        kept = marks[line.first]
        given_up = marks[line.second]
        marks = {node: kept if mark == given_up else mark for node, mark in marks.items()}
    found = {}
    for node in net.nodes:
        found.setdefault(marks[node], []).append(node)
    return list(found.values())


def bridges(net):
    """The labels of the lines without which there are more pieces."""
    many = len(pieces(net))
    return [line.label for line in net if len(pieces(net.without(line.label))) > many]
