"""Questions about the things on a desk."""

from fewcarry.desk.reader import Reader


class Question:
    """A value, or two values with <= between them; `steps` has it in the order in which it is worked out."""

    def __init__(self, text):
        words = tuple(text.split(" "))
        reader = Reader(words)
        self.words = words
        self.steps = tuple(reader.steps)
