"""The forms of the words of deeds and questions."""

from fewcarry.books.labels import is_label
from fewcarry.exact.errors import BadLabel, BadNumber
from fewcarry.exact.ratio import Ratio
from fewcarry.exact.whole import read_whole


def read_word(form, word):
    """What the word stands for in this form; for a word of another form one of several errors."""
    reader = _READERS[form]
    return reader(word)


def _read_label(word):
    if not is_label(word):
        raise BadLabel(word)
    return word


def _read_width(word):
    if word.startswith("-"):
        raise BadNumber(word)
    return read_whole(word)


def _read_number(word):
    return read_whole(word)


def _read_ratio(word):
    return Ratio.read(word)


# Names and nodes have the form of labels.
_READERS = {"label": _read_label, "width": _read_width, "number": _read_number, "ratio": _read_ratio}
