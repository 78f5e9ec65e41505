"""Point 74: the texts that are questions, and the first word of the others that cannot stand at its place."""

import re
import unittest
from random import Random

from fewcarry.desk.question import Question
from fewcarry.exact.errors import BadQuestion
from tests.support import failure

NAMES = r"[a-z0-9]{1,8}"
WHOLES = r"0|-?[1-9][0-9]*"
# Each form stands for a list of alternatives, each a list of forms and of words as patterns.
FORMS = {
    "QUESTION": [["VALUE", "SECOND"]],
    "SECOND": [[], ["<=", "VALUE"]],
    "VALUE": [["TERM", "TERMS"]],
    "TERMS": [[], [r"[+-]", "TERM", "TERMS"]],
    "TERM": [["PART", "PARTS"]],
    "PARTS": [[], [r"[*]", "PART", "PARTS"]],
    "PART": [
        [WHOLES + r"|-?[1-9][0-9]*/[1-9][0-9]*"], [r"[(]", "VALUE", r"[)]"],
        [r"least|greatest", r"[(]", "VALUE", r",", "VALUE", r"[)]"],
        [r"energy|power", NAMES, r"\[", WHOLES, "WHOLES", r"\]"], [r"pull", NAMES, NAMES],
        [r"cut", NAMES, r"\[", "NODES", r"\]"], [r"resistance", NAMES, r"\[", NAMES, NAMES, r"\]"],
        [r"forests|determinant|cost", NAMES]],
    "WHOLES": [[], [WHOLES, "WHOLES"]],
    "NODES": [[], [NAMES, "NODES"]],
}


def opened(stacks):
    """The stacks of forms that are left, each with a word's pattern on top or empty."""
    todo, found = list(stacks), set()
    while todo:
        stack = todo.pop()
        if stack and stack[0] in FORMS:
            todo += [tuple(way) + stack[1:] for way in FORMS[stack[0]]]
        else:
            found.add(stack)
    return found


def refused_place(text):
    """The place of the first word that cannot stand there, or None for a question; fractions are in lowest terms."""
    words = text.split(" ")
    stacks, depth = opened([("QUESTION",)]), 0
    for place, word in enumerate(words):
        depth += (word == "(") - (word == ")")
        stacks = opened(stack[1:] for stack in stacks if stack and re.fullmatch(stack[0], word))
        if not stacks or depth > 12 or place == 200:
            return place
    return None if () in stacks else len(words)


def nested(many, opening="("):
    return " ".join([opening] * many + ["1"] + [")"] * many)


GOOD = (
    "1", "-1/2", "0", "energy a [ 1 ]", "energy a [ 1 -2 0 ]", "power n [ 0 ]", "pull a x", "cut n [ ]",
    "cut n [ u v ]", "resistance n [ u v ]", "resistance n [ u u ]", "forests n", "determinant a", "cost a",
    "1 + 2 - 3 * 4", "( 1 )", "( ( 1 + 2 ) * 3 )", "least ( 1 , 2 )", "greatest ( 1 + 1 , 2 * cost a )",
    "1 <= 2", "energy a [ 1 ] <= 2 * energy a [ 2 ]", "least ( greatest ( 1 , 2 ) , 3 ) <= 4",
    # Any label may be a name or a node.
    "energy energy [ 1 ]", "cost least", "pull pull pull", "cut cut [ cut 5 0 ]", "forests 12345678", "cost 0",
    "1 - -1", "1 * -1/3", nested(12), "least ( 1 , " * 12 + "1" + " )" * 12,
)
BAD = (
    ("", 0), (" ", 0), (" 1", 0), ("1 ", 1), ("1  + 2", 1), ("1 +", 2), ("+ 1", 0), ("1 2", 1), ("1 + + 2", 2),
    ("1 <= 2 <= 3", 3), ("( 1 <= 2 )", 2), ("1 , 2", 1), ("least 1 , 2", 1), ("least ( 1 )", 3),
    ("least ( 1 , 2 , 3 )", 5), ("greatest ( 1", 3), ("( )", 1), (")", 0), ("( 1", 2), ("( 1 ) )", 3),
    ("energy", 1), ("energy a", 2), ("energy a 1", 2), ("energy a [ ]", 3), ("energy a [ 1 2", 5),
    ("energy a [ 1 2 [", 5), ("energy a [ 1/2 ]", 3), ("energy a [ -0 ]", 3), ("energy a [ 01 ]", 3),
    ("energy a [ 1, 2 ]", 3), ("energy A [ 1 ]", 1), ("energy aaaaaaaaa [ 1 ]", 1), ("power a [ u ]", 3),
    ("pull a", 2), ("pull a X", 2), ("pull a x y", 3), ("cut n u", 2), ("cut n [ u -1 ]", 4), ("cut n [", 3),
    ("resistance n [ ]", 3), ("resistance n [ u ]", 4), ("resistance n [ u v w ]", 5), ("resistance n [ u v", 5),
    ("forests", 1), ("forests n [ ]", 2), ("determinant a 1", 2), ("cost [", 1), ("sum a", 0), ("Cost a", 0),
    ("1.5", 0), ("2/4", 0), ("03", 0), ("-0", 0), ("+3", 0), ("1/0", 0), ("1/1", 0), ("-", 0), ("1 - - 1", 2),
    ("1-1", 0), ("1\n", 0), ("1 +\n2", 1), ("cost a\n", 1), ("1 == 2", 1), ("1 < 2", 1), ("1 >= 2", 1), ("(1)", 0),
)


class Questions(unittest.TestCase):
    def test_questions(self):
        for text in GOOD:
            self.assertIs(refused_place(text), None, text)
            question = Question(text)
            self.assertEqual(question.words, tuple(text.split(" ")))
            self.assertIs(type(question.words), tuple)

    def test_other_texts(self):
        for text, place in BAD:
            self.assertEqual(failure(Question, text), (BadQuestion, {"place": place}), text)

    def test_by_the_forms(self):
        random = Random(74)
        words = sorted({word for text in GOOD for word in text.split(" ")} | {"", "A", "1/2", "x", "-7", "2/4"})
        counts = {True: 0, False: 0}
        for _ in range(6000):
            parts = random.choice(GOOD).split(" ")
            for _ in range(random.randint(0, 2)):
                at = random.randint(0, len(parts))
                change = random.random()
                if change < 0.3:
                    parts[at:at + 1] = [random.choice(words)]
                elif change < 0.6:
                    parts[at:at] = [random.choice(words)]
                elif change < 0.8:
                    parts[at:at + random.randint(1, 3)] = []
                else:
                    parts[at:at] = random.choice(GOOD).split(" ")
            text = " ".join(parts)
            # The forms do not know that 2/4 is not in lowest terms.
            if "2/4" in parts:
                continue
            place = refused_place(text)
            counts[place is None] += 1
            if place is None:
                self.assertEqual(Question(text).words, tuple(parts))
            else:
                self.assertEqual(failure(Question, text), (BadQuestion, {"place": place}), text)
        self.assertTrue(min(counts.values()) > 1000, counts)

    def test_numbers_of_many_digits(self):
        long = "1" + "0" * 1999
        for text in (long, "-" + long[1:].replace("0", "7"), "energy a [ %s -%s ]" % (long, long)):
            self.assertEqual(Question(text).words, tuple(text.split(" ")))
        self.assertEqual(failure(Question, long + "0"), (BadQuestion, {"place": 0}))
        self.assertEqual(failure(Question, "-" + long), (BadQuestion, {"place": 0}))
        self.assertEqual(failure(Question, "energy a [ %s0 ]" % long), (BadQuestion, {"place": 3}))


class Depth(unittest.TestCase):
    def test_depth(self):
        for many in (13, 14, 50):
            self.assertEqual(failure(Question, nested(many)), (BadQuestion, {"place": 12}))
        text = "least ( 1 , " * 13 + "1" + " )" * 13
        self.assertEqual(failure(Question, text), (BadQuestion, {"place": 12 * 4 + 1}))

    def test_the_word_ahead_of_the_thirteenth_may_stand(self):
        open_ones = "( " * 12
        for word in ("least", "greatest"):
            self.assertEqual(failure(Question, open_ones + word + " ( 1 , 1 )"), (BadQuestion, {"place": 13}))
            self.assertEqual(failure(Question, open_ones + word + " 1"), (BadQuestion, {"place": 13}))
            self.assertEqual(failure(Question, open_ones + word), (BadQuestion, {"place": 13}))
        self.assertEqual(failure(Question, open_ones + "( 1"), (BadQuestion, {"place": 12}))

    def test_closed_ones_and_brackets_do_not_count(self):
        text = nested(12) + " + " + nested(12) + " * " + "( " * 12 + "cut n [ u ] + energy a [ 1 ]" + " )" * 12
        self.assertEqual(len(Question(text).words), len(text.split(" ")))
        self.assertEqual(failure(Question, "( 1 ) + " + nested(13)), (BadQuestion, {"place": 16}))


class Count(unittest.TestCase):
    def test_count(self):
        odd = "1" + " + 1" * 99
        self.assertEqual(len(Question(odd).words), 199)
        even = "least ( 1 , 2 )" + " + 1" * 97
        self.assertEqual(len(Question(even).words), 200)
        for text in (odd + " + 1", even + " + 1", even + " 1", even + " ", even + " Q Q", odd + " + 1" * 2000):
            self.assertEqual(failure(Question, text), (BadQuestion, {"place": 200}))
        # A word ahead of that one is refused for itself.
        self.assertEqual(failure(Question, odd + " 1 +"), (BadQuestion, {"place": 199}))
        self.assertEqual(failure(Question, "1 " + odd + " + 1"), (BadQuestion, {"place": 1}))

    def test_texts_that_end_too_early(self):
        odd = "1" + " + 1" * 99
        self.assertEqual(failure(Question, odd + " +"), (BadQuestion, {"place": 200}))
        self.assertEqual(failure(Question, odd + " + least"), (BadQuestion, {"place": 200}))
        self.assertEqual(failure(Question, "1" + " + 1" * 98 + " +"), (BadQuestion, {"place": 198}))

    def test_the_last_word_may_ask_for_more(self):
        # What stands at the place 199 could go on, were there no bound.
        text = "( 1" + " + 1" * 98 + " +"
        self.assertEqual(len(text.split(" ")), 199)
        for last in ("least", "(", "energy", "cut", "7"):
            self.assertEqual(failure(Question, text + " " + last), (BadQuestion, {"place": 200}))
            self.assertEqual(failure(Question, text + " " + last + " ( 1 , 2 ) )"), (BadQuestion, {"place": 200}))
        self.assertEqual(failure(Question, text + " ) 1"), (BadQuestion, {"place": 199}))

    def test_depth_and_count(self):
        text = "( " * 12 + "1" + " + 1" * 93
        self.assertEqual(len(text.split(" ")), 199)
        self.assertEqual(failure(Question, text + " + ( 1"), (BadQuestion, {"place": 200}))
        text = "( " * 12 + "1 * 1" + " + 1" * 92
        self.assertEqual(failure(Question, text + " ( 1"), (BadQuestion, {"place": 199}))


if __name__ == "__main__":
    unittest.main()
