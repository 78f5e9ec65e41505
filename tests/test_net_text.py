"""Point 55: the written form of a net."""

import unittest

from fewcarry.exact.errors import BadNet
from fewcarry.exact.ratio import Ratio
from fewcarry.nets.line import Line
from fewcarry.nets.net import Net
from tests.support import failure, random_nets

TEXT = "nodes a b c\nx a b 1\ny b c 2/3\nz b a 5"


class Written(unittest.TestCase):
    def test_text(self):
        net = Net(["a", "b", "c"], [Line("x", "a", "b", Ratio(1)), Line("y", "b", "c", Ratio(2, 3)),
                                    Line("z", "b", "a", Ratio(5))])
        self.assertEqual(net.text(), TEXT)
        self.assertEqual(Net(["n"], []).text(), "nodes n")

    def test_read(self):
        for text in (TEXT, "nodes n", "nodes 1 2 3 4 5 6 7 8 9 10 11 12", "nodes a b\na a b 1\nb b a 1/1000"):
            got = Net.read(text)
            self.assertIs(type(got), Net)
            self.assertEqual(got.text(), text)
        self.assertEqual(Net.read(TEXT).lines[1].strength, Ratio(2, 3))

    def test_there_and_back(self):
        for net in random_nets(2, 20):
            self.assertEqual(Net.read(net.text()), net)

    def test_full(self):
        lines = ["nodes a b"] + ["l%d a b 1" % k for k in range(200)]
        self.assertEqual(len(Net.read("\n".join(lines))), 200)
        self.bad("\n".join(lines + ["m a b 1"]), 202)
        self.bad("\n".join(lines + ["m a b 1", "n a b 1"]), 202)

    def bad(self, text, number):
        self.assertEqual(failure(Net.read, text), (BadNet, {"line": number}), text)

    def test_first_line(self):
        for first in ("", " ", "nodes", "nodes ", " nodes a b c", "nodes  a b c", "nodes a  b c", "nodes a b c ",
                      "Nodes a b c", "node a b c", "nodes a b a", "nodes A b c", "nodes a,b c", "nodes a b-c",
                      "nodes aaaaaaaaa", "nodes 1 2 3 4 5 6 7 8 9 10 11 12 13", "a b c", "nodes\ta b c",
                      "book 3", "nodes: a b c"):
            self.bad(first, 1)
            self.bad(first + "\nx a b 1", 1)

    def test_other_lines(self):
        for wrong in ("", " ", "x a b", "x a b 1 1", "x a b  1", " x a b 1", "x a b 1 ", "x  a b 1", "X a b 1",
                      "x a b 0", "x a b -1", "x a b 2/4", "x a b 3/1", "x a b +1", "x a b 01", "x a b -0", "x a b 1/0",
                      "x a b one", "x a a 1", "x a q 1", "x q a 1", "x a B 1", "w a b 1", "aaaaaaaaa a b 1",
                      "x a b: 1", "x\ta b 1", "nodes a b c", "x: a b 1", " a b 1", "x a b 1" + "0" * 2000):
            self.bad(f"nodes a b c\nw a c 1\n{wrong}", 3)
            self.bad(f"nodes a b c\nw a c 1\n{wrong}\nno", 3)
            self.bad(f"nodes a b c\nw a c 1\n{wrong}\nv a b 1", 3)

    def test_line_feeds(self):
        self.bad(TEXT + "\n", 5)
        self.bad("\n" + TEXT, 1)
        self.bad("", 1)
        self.bad("\n", 1)
        self.bad("nodes a b\n", 2)
        self.bad(TEXT.replace("\n", "\n\n", 1), 2)
        self.bad(TEXT.replace("\n", "\r\n"), 1)

    def test_first_wrong_line(self):
        self.bad("nodes a a\nx", 1)
        self.bad("nodes a b\nx a b 1\ny a b\nx a b 1", 3)
        self.bad("nodes a b\nx a b 1\nx a b 2\ny", 3)

    def test_long_strength(self):
        text = "nodes a b\nx a b " + "9" * 2000
        self.assertEqual(Net.read(text).text(), text)
        self.bad(text + "9", 2)


if __name__ == "__main__":
    unittest.main()
