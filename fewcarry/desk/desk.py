"""The desk: named books and nets, followed by watches."""

from fewcarry.desk.answers import answered
from fewcarry.desk.deeds import changes, read_deed, thing_called
from fewcarry.exact.errors import CarryError, NothingToRedo, NothingToUndo, Refused, WrongKind
from fewcarry.exact.span import Span


class Done:
    """A deed that was done: its text, and what stood under the names that it changed before and after it."""

    def __init__(self, deed, before, after):
        self.deed = deed
        self.before = before
        self.after = after


class Desk:
    """Holds books and nets under names, and can take back all deeds that were done."""

    def __init__(self):
        self._things = {}
        self._done = []
        # The deeds that were taken back and can be done again, the next one last.
        self._undone = []

    @classmethod
    def replayed(cls, deeds):
        """A new desk on which these deeds were done."""
        desk = cls()
        desk.do_all(deeds)
        return desk

    def do(self, deed):
        """Do a deed, which is a text."""
        action, given = read_deed(deed)
        if action == "undo":
            self._undo()
        elif action == "redo":
            self._redo()
        else:
            after = changes(self._things, len(self._done), action, given)
            before = {name: self._things.get(name) for name in after}
            self._leave(after)
            self._done.append(Done(deed, before, after))
            self._undone = []

    def do_all(self, deeds):
        """Do all deeds of a list, or none of them."""
        later = Desk()
        later._become(self)
        for at, deed in enumerate(deeds):
            try:
                later.do(deed)
            except CarryError as error:
                raise Refused(at) from error
        self._become(later)

    def names(self):
        """The names that are held, in the order in which they were made."""
        made = sorted([(thing.made, name) for name, thing in self._things.items()])
        return [name for _, name in made]

    def deeds(self):
        """The texts of the deeds that were done and are not taken back."""
        return [done.deed for done in self._done]

    def kind_of(self, name):
        """The text book or net."""
        return self._thing(name).kind()

    def book_of(self, name):
        """The book, which is that of the lines for a net."""
        return self._thing(name).watch.whole

    def net_of(self, name):
        """The net."""
        thing = self._thing(name)
        if not thing.is_net():
            raise WrongKind(name)
        return thing.net

    def summary_of(self, name):
        """The Few that carries the book."""
        return self._thing(name).watch.summary()

    def exact(self, question):
        """The answer from the whole books: a Ratio, True or False."""
        answer = answered(question, self._things, True)
        return answer.low if isinstance(answer, Span) else answer

    def ask(self, question):
        """The answer from the summaries: a Span, True, False or None."""
        return answered(question, self._things, False)

    def report(self):
        """A line for each name: its kind, how many loads there are, in all and in the summary, and the factor."""
        return "\n".join([self._line(name) for name in self.names()])

    def _thing(self, name):
        return thing_called(self._things, name)

    def _line(self, name):
        kind = self.kind_of(name)
        many = len(self.book_of(name))
        few = self.summary_of(name)
        return f"{name:<8} {kind:<4} {many:>5} {len(few.book):>5} {few.factor.text()}"

    def _undo(self):
        if len(self._done) == 0:
            raise NothingToUndo()
        done = self._done.pop()
        self._leave(done.before)
        self._undone.append(done)

    def _redo(self):
        if len(self._undone) == 0:
            raise NothingToRedo()
        done = self._undone.pop()
        self._leave(done.after)
        self._done.append(done)

    def _leave(self, things):
        # A name that is given up has None.
        for name, thing in things.items():
            if thing is None:
                del self._things[name]
            else:
                self._things[name] = thing

    def _become(self, other):
        self._things = dict(other._things)
        self._done = list(other._done)
        self._undone = list(other._undone)
