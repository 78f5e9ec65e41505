"""Point 26: the written form of books, and point 7 where a Ratio is read in it."""

import unittest

from fewcarry.books.book import Book
from fewcarry.books.load import Load
from fewcarry.exact.errors import BadBook
from fewcarry.exact.ratio import Ratio
from tests.support import failure, load, random_books

BOOK = Book(3, [load("a1", "3/2", 1, 0, -4), load("b", "7", 0, 0, 0), load("0z", "1/3", -9999, 9999, 10)])
TEXT = "book 3\na1 3/2: 1 0 -4\nb 7: 0 0 0\n0z 1/3: -9999 9999 10"


class Written(unittest.TestCase):
    def test_known(self):
        self.assertEqual(BOOK.text(), TEXT)
        self.assertEqual(Book(2, []).text(), "book 2")
        self.assertEqual(Book(12, []).text(), "book 12")
        self.assertEqual(Book(1, [load("a", "1", 5)]).text(), "book 1\na 1: 5")

    def test_read(self):
        got = Book.read(TEXT)
        self.assertIs(type(got), Book)
        self.assertEqual(got, BOOK)
        self.assertEqual(Book.read("book 2"), Book(2, []))
        self.assertEqual(Book.read("book 12"), Book(12, []))

    def test_back_and_forth(self):
        for width in (1, 2, 5, 12):
            for book in random_books(260 + width, 15, width):
                got = Book.read(book.text())
                self.assertEqual((got, got.text()), (book, book.text()))

    def test_as_many_loads_as_a_book_has(self):
        lines = ["x%d 1: 1" % k for k in range(201)]
        self.assertEqual(len(Book.read("\n".join(["book 1"] + lines[:200]))), 200)
        self.assertEqual(failure(Book.read, "\n".join(["book 1"] + lines)), (BadBook, {"line": 202}))
        lines[150] = "x150 1: 10000"
        self.assertEqual(failure(Book.read, "\n".join(["book 1"] + lines)), (BadBook, {"line": 152}))

    def test_long_weights(self):
        for weight in ("1" * 2000, "1/" + "1" * 1998):
            text = f"book 1\na {weight}: 1"
            self.assertEqual(Book.read(text).text(), text)
        for weight in ("1" * 2001, "1/" + "1" * 1999, "1" * 9000):
            self.assertEqual(failure(Book.read, f"book 1\nb 1: 1\na {weight}: 1"), (BadBook, {"line": 3}))

    def test_long_numbers(self):
        for number in ("1" * 2000, "-" + "1" * 2000, "1" * 2001, "1" * 9000, "0" * 5000):
            self.assertEqual(failure(Book.read, f"book 1\na 1: {number}"), (BadBook, {"line": 2}))
            self.assertEqual(failure(Book.read, f"book {number}\na 1: 1"), (BadBook, {"line": 1}))


class BadFirstLine(unittest.TestCase):
    def test_every_other_line(self):
        for line in ("", " ", "book", "book ", "book  2", " book 2", "book 2 ", "book 0", "book 13", "book -1", "book 02",
                     "book +2", "book 2/1", "book 4/2", "book 2.0", "book two", "book 2 3", "Book 2", "BOOK 2", "books 2",
                     "book2", "2", "book:2", "book 2:", "nodes a", "a 1: 1 0", "book -0", "book 1e0", "book 1_0"):
            self.assertEqual(failure(Book.read, line), (BadBook, {"line": 1}))
            self.assertEqual(failure(Book.read, line + "\na 1: 1 0"), (BadBook, {"line": 1}))
            self.assertEqual(failure(Book.read, line + "\nbad\n"), (BadBook, {"line": 1}))

    def test_line_feeds(self):
        self.assertEqual(failure(Book.read, ""), (BadBook, {"line": 1}))
        self.assertEqual(failure(Book.read, "\n"), (BadBook, {"line": 1}))
        self.assertEqual(failure(Book.read, "\nbook 2"), (BadBook, {"line": 1}))
        self.assertEqual(failure(Book.read, "book 2\n"), (BadBook, {"line": 2}))
        self.assertEqual(failure(Book.read, "book 2\n\n"), (BadBook, {"line": 2}))


class BadLines(unittest.TestCase):
    def refused(self, line):
        wanted = (BadBook, {"line": 3})
        self.assertEqual(failure(Book.read, "book 2\na 1: 1 0\n" + line), wanted)
        self.assertEqual(failure(Book.read, "book 2\na 1: 1 0\n" + line + "\nc 1: 1 1"), wanted)
        self.assertEqual(failure(Book.read, "book 2\na 1: 1 0\n" + line + "\nbad"), wanted)

    def test_a_good_line(self):
        self.assertEqual(len(Book.read("book 2\na 1: 1 0\nb 1: 1 0\nc 1: 1 1")), 3)

    def test_form(self):
        for line in ("", " ", "b", "b 1", "b 1:", "b 1: ", "b1: 1 0", "b: 1 0", "b 1 1 0", "b 1 : 1 0", "b 1:1 0",
                     "b 1:  1 0", "b 1: 1  0", "b 1: 1 0 ", " b 1: 1 0", "b  1: 1 0", "b 1: 1, 0", "b 1: 1 0\\n",
                     "1: 1 0", " 1: 1 0", ": 1 0", "b 1: : 1 0", "b 1: 1: 0", "b 1:: 1 0", "b 1 2: 1 0", "book 2",
                     "b 1: 1 0:", "b: 1: 1 0", "b 1: a 0", "b 1; 1 0", "b\t1: 1 0"):
            self.refused(line)

    def test_numbers(self):
        for number in ("+1", "01", "-01", "-0", "00", "1/1", "1/2", "1.0", "1e1", "--1", "-", "- 1", "x", "1_0", "0x1",
                       "10000", "-10000", "99999999999999999999"):
            self.refused("b 1: %s 0" % number)
            self.refused("b 1: 0 %s" % number)

    def test_weights(self):
        for weight in ("0", "-1", "-1/2", "+1", "01", "2/4", "3/1", "1/0", "0/1", "1/-2", "1/02", "1.5", "1/ 2", "1 /2",
                       "", "x", "-0", "1//2", "1/2/3", "/2", "1/"):
            self.refused("b %s: 1 0" % weight)

    def test_labels(self):
        for label in ("", "B", "abcdefghi", "b-", "b_", "b.", "*", "b/c", "b:", "~"):
            self.refused("%s 1: 1 0" % label)

    def test_what_load_or_book_refuses(self):
        for line in ("b 1: 1", "b 1: 1 0 0", "b 1: " + " ".join(["1"] * 13), "a 1: 1 0", "a 2: 3 4"):
            self.refused(line)

    def test_first_bad_line_counts(self):
        self.assertEqual(failure(Book.read, "book 2\na 1: 1\nb 0: 1 0"), (BadBook, {"line": 2}))
        self.assertEqual(failure(Book.read, "book 2\na 1: 1 1\nb 1: 1 0\nc 1: 1 1\nb 1: 1 1"), (BadBook, {"line": 5}))
        self.assertEqual(failure(Book.read, TEXT + "\n"), (BadBook, {"line": 5}))
        self.assertEqual(failure(Book.read, TEXT.replace("\n", "\n\n")), (BadBook, {"line": 2}))

    def test_every_text_near_by_is_refused_or_written_so(self):
        text = "book 2\na1 3/2: 1 -4\nb 1: 0 12"
        read = 0
        for at in range(len(text) + 1):
            for sign in "a01/-: \n+2":
                for other in (text[:at] + sign + text[at:], text[:at] + sign + text[at + 1:], text[:at] + text[at + 1:]):
                    try:
                        book = Book.read(other)
                    except BadBook as error:
                        lines = other.split("\n")
                        self.assertTrue(1 <= error.line <= len(lines))
                        if error.line > 1:
                            Book.read("\n".join(lines[:error.line - 1]))
                        with self.assertRaises(BadBook):
                            Book.read("\n".join(lines[:error.line]))
                    else:
                        read += 1
                        self.assertEqual(book.text(), other)
        self.assertGreater(read, 50)

    def test_weight_of_one_is_written_without_a_bottom(self):
        self.assertEqual(Book(1, [Load("a", Ratio(4, 4), [1])]).text(), "book 1\na 1: 1")


if __name__ == "__main__":
    unittest.main()
