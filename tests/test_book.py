"""Points 19 and 20: books, and the books made of them."""

import unittest

from fewcarry.books.book import Book, joined
from fewcarry.books.load import Load
from fewcarry.exact.errors import BadFactor, BadShape, BadWeight, NoLabel, OutOfBounds, TooMany, TwinLabel
from fewcarry.exact.ratio import Ratio
from tests.support import failure, load, random_books, ratio

A = load("a", "1/2", 1, 2)
B = load("b", "3", 0, -1)
C = load("c", "5/7", 0, 0)


def many_loads(many, start=0):
    return [Load("x%d" % (start + k), Ratio(1), [1]) for k in range(many)]


def labels(book):
    return [item.label for item in book.loads]


class Books(unittest.TestCase):
    def test_fields(self):
        book = Book(2, [B, A])
        self.assertEqual((book.width, book.loads), (2, (B, A)))
        self.assertIs(type(book.loads), tuple)
        self.assertEqual(len(book), 2)
        self.assertEqual(list(book), [B, A])
        self.assertEqual([item.label for item in book], ["b", "a"])
        self.assertEqual(Book(2, (B, A)), book)

    def test_without_loads(self):
        for width in (1, 12):
            book = Book(width, [])
            self.assertEqual((book.width, book.loads, len(book), list(book)), (width, (), 0, []))
            self.assertFalse("a" in book)

    def test_label_in_book(self):
        book = Book(2, [A, B])
        self.assertIs("a" in book, True)
        self.assertIs("b" in book, True)
        for label in ("c", "", "A", "aa", "a b", "abcdefghi", "\n"):
            self.assertIs(label in book, False)

    def test_load(self):
        book = Book(2, [A, B])
        self.assertIs(type(book.load("b")), Load)
        self.assertEqual(book.load("b"), B)
        self.assertEqual(book.load("a"), A)
        for label in ("c", "", "A", "abcdefghi"):
            self.assertEqual(failure(book.load, label), (NoLabel, {"label": label}))
        self.assertEqual(failure(Book(1, []).load, "a"), (NoLabel, {"label": "a"}))

    def test_widths(self):
        for width in (1, 5, 12):
            self.assertEqual(Book(width, [Load("a", Ratio(1), [1] * width)]).width, width)
        for width in (0, -1, 13, 100):
            self.assertEqual(failure(Book, width, []), (OutOfBounds, {"value": width}))

    def test_many_loads(self):
        self.assertEqual(len(Book(1, many_loads(200))), 200)
        self.assertEqual(failure(Book, 1, many_loads(201)), (TooMany, {"most": 200}))
        self.assertEqual(failure(Book, 1, many_loads(1000)), (TooMany, {"most": 200}))

    def test_loads_of_another_width(self):
        for width in (1, 3, 12):
            self.assertEqual(failure(Book, width, [A]), (BadShape, {}))

    def test_twins(self):
        self.assertEqual(failure(Book, 2, [A, B, load("a", "7", 3, 4)]), (TwinLabel, {"label": "a"}))
        self.assertEqual(failure(Book, 2, [A, B, B, A]), (TwinLabel, {"label": "b"}))

    def test_order_of_the_errors(self):
        narrow = load("a", "1", 1)
        self.assertEqual(failure(Book, 13, many_loads(201)), (OutOfBounds, {"value": 13}))
        self.assertEqual(failure(Book, 2, many_loads(201)), (TooMany, {"most": 200}))
        self.assertEqual(failure(Book, 1, [narrow] * 201), (TooMany, {"most": 200}))
        self.assertEqual(failure(Book, 2, [A, narrow]), (BadShape, {}))
        self.assertEqual(failure(Book, 2, [A, A, narrow]), (TwinLabel, {"label": "a"}))
        self.assertEqual(failure(Book, 2, [A, narrow, A]), (BadShape, {}))

    def test_loads_are_copied(self):
        loads = [A, B]
        book = Book(2, loads)
        loads.append(C)
        loads[0] = C
        self.assertEqual((book.loads, len(book), "c" in book), ((A, B), 2, False))

    def test_equal(self):
        book = Book(2, [A, B])
        self.assertTrue(book == Book(2, [load("a", "1/2", 1, 2), load("b", "3", 0, -1)]))
        self.assertFalse(book != Book(2, [A, B]))
        for other in (Book(2, [B, A]), Book(2, [A]), Book(2, [A, B, C]), Book(2, []), A, None, [A, B], (A, B),
                      Book(2, [A, load("b", "3", 0, 1)])):
            self.assertFalse(book == other)
            self.assertTrue(book != other)
        self.assertFalse(Book(1, []) == Book(2, []))
        self.assertTrue(Book(1, []) == Book(1, []))


class Sums(unittest.TestCase):
    def test_sum(self):
        one, two = Book(2, [B]), Book(2, [C, A])
        got = one + two
        self.assertIs(type(got), Book)
        self.assertEqual(got, Book(2, [B, C, A]))
        self.assertEqual((one, two), (Book(2, [B]), Book(2, [C, A])))
        self.assertEqual(one + Book(2, []), one)
        self.assertEqual(Book(2, []) + one, one)

    def test_errors_of_a_sum(self):
        def added(a, b):
            return a + b

        self.assertEqual(failure(added, Book(2, [A]), Book(1, [])), (BadShape, {}))
        self.assertEqual(failure(added, Book(2, []), Book(1, many_loads(200))), (BadShape, {}))
        self.assertEqual(failure(added, Book(2, [A, B]), Book(2, [C, B, A])), (TwinLabel, {"label": "b"}))
        full = Book(1, many_loads(200))
        self.assertEqual(failure(added, full, Book(1, many_loads(1))), (TooMany, {"most": 200}))
        self.assertEqual(failure(added, full, full), (TooMany, {"most": 200}))
        self.assertEqual(len(Book(1, many_loads(120)) + Book(1, many_loads(80, 120))), 200)

    def test_joined(self):
        one, two, three = Book(2, [A]), Book(2, [C]), Book(2, [B])
        self.assertEqual(joined(one), one)
        self.assertIs(type(joined(one)), Book)
        self.assertEqual(joined(one, two), Book(2, [A, C]))
        self.assertEqual(joined(one, two, three), Book(2, [A, C, B]))
        self.assertEqual(joined(three, one, two), Book(2, [B, A, C]))
        self.assertEqual(joined(Book(3, [])), Book(3, []))

    def test_errors_of_joined(self):
        one, two = Book(2, [A]), Book(2, [B])
        self.assertEqual(failure(joined, one, Book(1, [])), (BadShape, {}))
        self.assertEqual(failure(joined, one, two, one), (TwinLabel, {"label": "a"}))
        # Each sum has all its errors ahead of the next one.
        self.assertEqual(failure(joined, one, one, Book(1, [])), (TwinLabel, {"label": "a"}))
        self.assertEqual(failure(joined, one, Book(1, []), one), (BadShape, {}))
        full = Book(1, many_loads(200))
        self.assertEqual(failure(joined, full, full, Book(2, [])), (TooMany, {"most": 200}))


class Changed(unittest.TestCase):
    def test_scaled(self):
        book = Book(2, [A, B])
        got = book.scaled(ratio("2/3"))
        self.assertIs(type(got), Book)
        self.assertEqual(got, Book(2, [load("a", "1/3", 1, 2), load("b", "2", 0, -1)]))
        self.assertEqual(book, Book(2, [A, B]))
        self.assertEqual(book.scaled(Ratio(1)), book)
        self.assertEqual(Book(4, []).scaled(Ratio(7)), Book(4, []))
        for factor in (Ratio(0), Ratio(-1), ratio("-1/9")):
            self.assertEqual(failure(book.scaled, factor), (BadFactor, {"factor": factor}))
            self.assertEqual(failure(Book(1, []).scaled, factor), (BadFactor, {"factor": factor}))

    def test_without(self):
        book = Book(2, [A, B, C])
        self.assertIs(type(book.without("b")), Book)
        self.assertEqual(book.without("b"), Book(2, [A, C]))
        self.assertEqual(book.without("a"), Book(2, [B, C]))
        self.assertEqual(book.without("c"), Book(2, [A, B]))
        self.assertEqual(Book(2, [A]).without("a"), Book(2, []))
        self.assertEqual(book, Book(2, [A, B, C]))
        for label in ("d", "", "B"):
            self.assertEqual(failure(book.without, label), (NoLabel, {"label": label}))

    def test_reweighed(self):
        book = Book(2, [A, B, C])
        got = book.reweighed({"c": Ratio(2), "a": ratio("9/4")})
        self.assertIs(type(got), Book)
        self.assertEqual(got, Book(2, [load("a", "9/4", 1, 2), load("c", "2", 0, 0)]))
        self.assertEqual(book.reweighed({}), Book(2, []))
        self.assertEqual(book.reweighed({item.label: item.weight for item in book}), book)
        self.assertEqual(book, Book(2, [A, B, C]))

    def test_errors_of_reweighed(self):
        book = Book(2, [A, B, C])
        call = book.reweighed
        self.assertEqual(failure(call, {"d": Ratio(1), "e": Ratio(1)}), (NoLabel, {"label": "d"}))
        self.assertEqual(failure(call, {"a": Ratio(1), "e": Ratio(1), "d": Ratio(1)}), (NoLabel, {"label": "e"}))
        self.assertEqual(failure(call, {"a": Ratio(0), "": Ratio(1)}), (NoLabel, {"label": ""}))
        self.assertEqual(failure(call, {"c": Ratio(0), "b": Ratio(-1)}), (BadWeight, {"label": "b"}))
        self.assertEqual(failure(call, {"c": Ratio(0), "b": Ratio(1)}), (BadWeight, {"label": "c"}))

    def test_dict_is_copied(self):
        weights = {"a": Ratio(2)}
        got = Book(2, [A, B]).reweighed(weights)
        weights["a"] = Ratio(3)
        weights["b"] = Ratio(3)
        self.assertEqual(got, Book(2, [load("a", "2", 1, 2)]))

    def test_order_of_the_book_is_kept(self):
        for book in random_books(19, 20, 3):
            turned = {label: Ratio(k + 1) for k, label in enumerate(reversed(labels(book)))}
            self.assertEqual(labels(book.reweighed(turned)), labels(book))
            self.assertEqual(labels(book.scaled(Ratio(5))), labels(book))
            for k, label in enumerate(labels(book)):
                self.assertEqual(labels(book.without(label)), labels(book)[:k] + labels(book)[k + 1:])


if __name__ == "__main__":
    unittest.main()
