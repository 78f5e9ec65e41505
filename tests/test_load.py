"""Point 18: labels and loads."""

import unittest

from fewcarry.books.load import Load
from fewcarry.exact.errors import BadLabel, BadShape, BadWeight, OutOfBounds
from fewcarry.exact.ratio import Ratio
from tests.support import failure, load, ratio

BAD_LABELS = ("", "abcdefghi", "A", "aB", "a b", " a", "a ", "a-b", "a_b", "a.", "a:", "a\n", "\n", "~", "`a", "{",
              "/", ":", "@", "[", "123456789")


class Loads(unittest.TestCase):
    def test_fields(self):
        got = Load("a1", Ratio(3, 2), [1, 0, -4])
        self.assertEqual((got.label, got.weight, got.numbers), ("a1", Ratio(3, 2), (1, 0, -4)))
        self.assertIs(type(got.numbers), tuple)
        self.assertIs(type(got.weight), Ratio)

    def test_labels(self):
        for label in ("a", "z", "0", "9", "abcdefgh", "12345678", "0a", "a0z9"):
            self.assertEqual(Load(label, Ratio(1), [1]).label, label)

    def test_bad_labels(self):
        for label in BAD_LABELS:
            self.assertEqual(failure(Load, label, Ratio(1), [1]), (BadLabel, {"label": label}))

    def test_weights(self):
        for weight in ("1/1000000", "1", "9999999"):
            self.assertEqual(load("a", weight, 1).weight.text(), weight)
        for weight in ("0", "-1", "-1/1000000"):
            self.assertEqual(failure(Load, "a", ratio(weight), [1]), (BadWeight, {"label": "a"}))

    def test_how_many_numbers(self):
        for many in (1, 2, 11, 12):
            self.assertEqual(Load("a", Ratio(1), [3] * many).numbers, (3,) * many)
        for many in (0, 13, 14, 100):
            self.assertEqual(failure(Load, "a", Ratio(1), [3] * many), (BadShape, {}))

    def test_bounds_of_numbers(self):
        self.assertEqual(load("a", "1", 9999, -9999, 0).numbers, (9999, -9999, 0))
        for number in (10000, -10000, 10 ** 30, -10 ** 30):
            self.assertEqual(failure(Load, "a", Ratio(1), [number]), (OutOfBounds, {"value": number}))
        self.assertEqual(failure(Load, "a", Ratio(1), [1, 10001, -10002]), (OutOfBounds, {"value": 10001}))
        self.assertEqual(failure(Load, "a", Ratio(1), [1, -10002, 10001]), (OutOfBounds, {"value": -10002}))

    def test_order_of_the_errors(self):
        self.assertEqual(failure(Load, "A", Ratio(0), []), (BadLabel, {"label": "A"}))
        self.assertEqual(failure(Load, "a", Ratio(0), []), (BadWeight, {"label": "a"}))
        self.assertEqual(failure(Load, "a", Ratio(0), [10000]), (BadWeight, {"label": "a"}))
        self.assertEqual(failure(Load, "a", Ratio(1), [10000] * 13), (BadShape, {}))

    def test_numbers_are_copied(self):
        numbers = [1, 2]
        got = Load("a", Ratio(1), numbers)
        numbers[0] = 9
        self.assertEqual(got.numbers, (1, 2))

    def test_equal(self):
        one = load("a", "1/2", 1, 2)
        self.assertTrue(one == Load("a", Ratio(2, 4), (1, 2)))
        self.assertFalse(one != Load("a", Ratio(2, 4), (1, 2)))
        for other in (load("b", "1/2", 1, 2), load("a", "1/3", 1, 2), load("a", "1/2", 1, 3), load("a", "1/2", 1),
                      load("a", "1/2", 1, 2, 0), "a", None, ("a", Ratio(1, 2), (1, 2))):
            self.assertFalse(one == other)
            self.assertTrue(one != other)


if __name__ == "__main__":
    unittest.main()
