"""Questions read word by word."""

from fewcarry.desk.words import read_word
from fewcarry.exact.errors import BadQuestion, CarryError

_MOST_WORDS = 200
_MOST_DEPTH = 12
_MEASURES = ("energy", "power", "pull", "cut", "resistance", "forests", "determinant", "cost")
# The forms of what stands in brackets, and how many of these there are at least.
_IN_BRACKETS = {"energy": ("number", 1), "power": ("number", 1), "cut": ("label", 0), "resistance": ("label", 2)}


class Measure:
    """A measure in a question: its word, the name of the thing, and a tuple of what else it is given."""

    def __init__(self, word, name, given):
        self.word = word
        self.name = name
        self.given = given


class Reader:
    """Reads the words of a question from the left, and refuses the first one that cannot stand at its place.

    The steps are its Ratios, its measures and its signs, each sign behind the two values that it joins.
    """

    def __init__(self, words):
        self.steps = []
        # Without the words beyond the bound, a text ends too early or has words left over.
        self._words = words[:_MOST_WORDS]
        self._place = 0
        self._depth = 0
        self._read_question()
        if self._place < len(words):
            raise BadQuestion(self._place)

    def _read_question(self):
        self._read_value()
        sign = self._take_if(("<=",))
        if sign is not None:
            self._read_value()
            self.steps.append(sign)

    def _read_value(self):
        self._read_term()
        sign = self._take_if(("+", "-"))
        while sign is not None:
            self._read_term()
            self.steps.append(sign)
            sign = self._take_if(("+", "-"))

    def _read_term(self):
        self._read_part()
        sign = self._take_if(("*",))
        while sign is not None:
            self._read_part()
            self.steps.append(sign)
            sign = self._take_if(("*",))

    def _read_part(self):
        if self._word() == "(":
            self._read_parenthesis(1)
            return
        word = self._take_if(("least", "greatest"))
        if word is not None:
            self._read_parenthesis(2)
            self.steps.append(word)
            return
        word = self._take_if(_MEASURES)
        if word is not None:
            name = self._take("label")
            self.steps.append(Measure(word, name, self._read_given(word)))
            return
        self.steps.append(self._take("ratio"))

    def _read_parenthesis(self, many):
        # So many values stand in it, with commas between them.
        if self._word() != "(" or self._depth == _MOST_DEPTH:
            raise BadQuestion(self._place)
        self._expect("(")
        self._depth = self._depth + 1
        self._read_value()
        for _ in range(many - 1):
            self._expect(",")
            self._read_value()
        self._expect(")")
        self._depth = self._depth - 1

    def _read_given(self, word):
        if word == "pull":
            return (self._take("label"),)
        if word not in _IN_BRACKETS:
            return ()
        form, least = _IN_BRACKETS[word]
        self._expect("[")
        given = [self._take(form) for _ in range(least)]
        while word != "resistance" and self._word() != "]":
            given.append(self._take(form))
        self._expect("]")
        return tuple(given)

    def _word(self):
        # A text that ends too early has no word that could stand at this place.
        if self._place == len(self._words):
            raise BadQuestion(self._place)
        return self._words[self._place]

    def _take(self, form):
        word = self._word()
        try:
            taken = read_word(form, word)
        except CarryError:
            raise BadQuestion(self._place) from None
        self._place = self._place + 1
        return taken

    def _take_if(self, words):
        # The next word if it is one of these, and otherwise None.
        if self._place == len(self._words) or self._words[self._place] not in words:
            return None
        self._place = self._place + 1
        return self._words[self._place - 1]

    def _expect(self, word):
        if self._take_if((word,)) is None:
            raise BadQuestion(self._place)
