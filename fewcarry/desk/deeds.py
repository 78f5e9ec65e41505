"""Deeds: what can be done on a desk, as texts and as changes of the things that it holds."""

from fewcarry.books.book import Book
from fewcarry.books.load import Load
from fewcarry.desk.thing import Thing
from fewcarry.desk.words import read_word
from fewcarry.exact.errors import BadDeed, CarryError, NoName, TwinName, WrongKind
from fewcarry.nets.line import Line
from fewcarry.nets.net import Net
from fewcarry.streams.watch import Watch

_FORMS = {
    "book": ("label", "width", "ratio", "ratio"),
    "net": ("label", "ratio", "ratio", "label"),
    "put": ("label", "label", "ratio", "number"),
    "tie": ("label", "label", "label", "label", "ratio"),
    "drop": ("label", "label"),
    "thin": ("label",),
    "limit": ("label", "ratio"),
    "merge": ("label", "label"),
    "forget": ("label",),
    "undo": (),
    "redo": (),
}
# In these deeds the last word may be followed by more of its form.
_OPEN_ENDED = ("net", "put")


def read_deed(deed):
    """The first word of a deed, and a list of what the other ones stand for."""
    words = deed.split(" ")
    action = words[0]
    if action not in _FORMS:
        raise BadDeed(deed)
    forms = list(_FORMS[action])
    while action in _OPEN_ENDED and len(forms) < len(words) - 1:
        forms.append(forms[-1])
    if len(forms) != len(words) - 1:
        raise BadDeed(deed)
    try:
        given = [read_word(form, word) for form, word in zip(forms, words[1:])]
    except CarryError:
        raise BadDeed(deed) from None
    return action, given


def changes(things, made, action, given):
    """What a deed leaves under the names that it changes: a thing, or None for a name that is given up."""
    if action not in ("book", "net"):
        _check_names(things, action, given)
    change = _CHANGES[action]
    return change(things, made, given)


def thing_called(things, name):
    """The thing with this name."""
    if name not in things:
        raise NoName(name)
    return things[name]


def _check_names(things, action, given):
    names = given[:2] if action == "merge" else given[:1]
    held = [thing_called(things, name) for name in names]
    if action in ("put", "merge") and held[0].is_net():
        raise WrongKind(names[0])
    if action == "tie" and not held[0].is_net():
        raise WrongKind(names[0])
    if action == "merge" and (held[1].is_net() or names[1] == names[0]):
        raise WrongKind(names[1])


def _make_book(things, made, given):
    name, width, q, limit = given
    _check_free(things, name)
    return {name: Thing(made, None, Watch(Book(width, []), q, limit))}


def _make_net(things, made, given):
    name, q, limit, *nodes = given
    _check_free(things, name)
    net = Net(nodes, [])
    return {name: Thing(made, net, Watch(net.as_book(), q, limit))}


def _put_load(things, made, given):
    name, label, weight, *numbers = given
    load = Load(label, weight, numbers)
    thing = things[name]
    watch = thing.watch.twin()
    watch.put(load)
    return {name: Thing(thing.made, None, watch)}


def _tie_line(things, made, given):
    name, label, first, second, strength = given
    line = Line(label, first, second, strength)
    thing = things[name]
    watch = thing.watch.twin()
    watch.put(thing.net.load_of(line))
    return {name: Thing(thing.made, thing.net.with_line(line), watch)}


def _drop_load(things, made, given):
    name, label = given
    thing = things[name]
    watch = thing.watch.twin()
    watch.drop(label)
    net = thing.net.without(label) if thing.is_net() else None
    return {name: Thing(thing.made, net, watch)}


def _thin(things, made, given):
    thing = things[given[0]]
    watch = thing.watch.twin()
    watch.rebuild()
    return {given[0]: Thing(thing.made, thing.net, watch)}


def _restrict(things, made, given):
    name, limit = given
    thing = things[name]
    watch = thing.watch.twin()
    watch.restrict(limit)
    return {name: Thing(thing.made, thing.net, watch)}


def _merge(things, made, given):
    name, other = given
    thing = things[name]
    watch = thing.watch.twin()
    watch.take(things[other].watch)
    return {name: Thing(thing.made, None, watch), other: None}


def _forget(things, made, given):
    return {given[0]: None}


def _check_free(things, name):
    if name in things:
        raise TwinName(name)


_CHANGES = {
    "book": _make_book,
    "net": _make_net,
    "put": _put_load,
    "tie": _tie_line,
    "drop": _drop_load,
    "thin": _thin,
    "limit": _restrict,
    "merge": _merge,
    "forget": _forget,
}
