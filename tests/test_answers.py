"""Points 75 and 76: questions answered from the whole books and from the summaries."""

import unittest
from random import Random

from fewcarry.books.balance import power_of
from fewcarry.desk.desk import Desk
from fewcarry.desk.question import Question
from fewcarry.exact.errors import BadShape, NoLabel, NoName, NoNode, OutOfReach, Parted, WrongKind
from fewcarry.exact.ratio import Ratio
from fewcarry.exact.span import Span
from fewcarry.fits.fit import Fit
from fewcarry.grids.solving import determinant
from fewcarry.nets.cuts import cut
from fewcarry.nets.forests import forest_weight
from fewcarry.nets.pieces import pieces
from fewcarry.nets.resistance import resistance
from tests.support import failure, ratio
from tests.test_desk import desk_of

ONE = Ratio(1)
FIRST = ("book a 3 5/4 1000", "put a x 1 1 0 2", "put a y 2 0 1 1", "put a z 1/3 1 1 5", "put a w 3 2 -1 0",
         "put a v 1 1 2 1", "put a t 1/2 3 1 1", "put a s 1 1 -2 4", "put a r 5 1 0 0",
         "net n 13/12 1000 u v w p q", "tie n e u v 1", "tie n f v w 2", "tie n g w u 1/3", "tie n h u v 5",
         "tie n k p q 2", "tie n l v w 4", "book b 2 2 1000", "put b x 1 1 1", "put b y 1 2 2", "book c 1 2 1000",
         "put c x 1 3")
# From here on the factors of a, n and b are above 1.
THINNED = FIRST + ("thin a", "thin n", "put b z 9 3 3", "thin b", "drop b y", "put a q 2 0 0 1", "tie n m q p 7")


def exactly(desk, text):
    return desk.exact(Question(text))


def asked(desk, text):
    return desk.ask(Question(text))


def net_of_summary(desk, name):
    few = desk.summary_of(name)
    return desk.net_of(name).reweighed({item.label: item.weight for item in few.book})


class AnswerTest(unittest.TestCase):
    def setUp(self):
        self.desk = Desk.replayed(THINNED)

    def check_exact(self, text, wanted):
        got = exactly(self.desk, text)
        self.assertIs(type(got), Ratio)
        self.assertEqual(got, wanted, text)

    def check_span(self, text, low, high):
        got = asked(self.desk, text)
        self.assertIs(type(got), Span)
        self.assertEqual((got.low, got.high), (low, high), text)
        self.assertTrue(exactly(self.desk, text) in got, text)


class Measures(AnswerTest):
    def test_factors(self):
        factors = [self.desk.summary_of(name).factor for name in "anbc"]
        self.assertEqual([factor == ONE for factor in factors], [False, False, False, True])

    def test_energy(self):
        for name, rows in (("a", ([1, 0, 0], [1, -2, 3], [0, 0, 0])), ("n", ([1, 0, 2, 0, 0], [1, 1, 1, 1, 1])),
                           ("b", ([1, -1], [4, 9])), ("c", ([10 ** 30],))):
            few = self.desk.summary_of(name)
            for row in rows:
                text = "energy %s [ %s ]" % (name, " ".join(map(str, row)))
                self.check_exact(text, self.desk.book_of(name).energy(row))
                self.check_span(text, few.book.energy(row).divided(few.factor), few.book.energy(row))

    def test_power(self):
        for name, rows in (("a", ([1, 0, 0], [1, -2, 3], [0, 0, 0])), ("n", ([1, 0, -1, 2, -2], [0, 0, 0, 5, -5])),
                           ("b", ([1, 1], [-7, -7])), ("c", ([2],))):
            few = self.desk.summary_of(name)
            for row in rows:
                text = "power %s [ %s ]" % (name, " ".join(map(str, row)))
                power = power_of(few.book, row)
                self.check_exact(text, power_of(self.desk.book_of(name), row))
                self.check_span(text, power, few.factor * power)

    def test_pull(self):
        lesser = 0
        for name in "anbc":
            book, few = self.desk.book_of(name), self.desk.summary_of(name)
            for item in book:
                text = "pull %s %s" % (name, item.label)
                self.check_exact(text, book.pull(item.label))
                low = item.weight * power_of(few.book, item.numbers)
                high = few.factor * low
                lesser += high.compare(ONE) > 0
                self.check_span(text, low, high if high.compare(ONE) <= 0 else ONE)
        self.assertGreater(lesser, 0)

    def test_pull_of_loads_that_the_summary_does_not_have(self):
        for name in "an":
            book, few = self.desk.book_of(name), self.desk.summary_of(name)
            self.assertTrue(any(item.label not in few.book for item in book))

    def test_cut(self):
        few, net = self.desk.summary_of("n"), net_of_summary(self.desk, "n")
        for nodes in ([], ["u"], ["u", "w", "p"], ["q", "q", "v"], ["u", "v", "w", "p", "q"]):
            text = " ".join(["cut n [", *nodes, "]"])
            self.check_exact(text, cut(self.desk.net_of("n"), nodes))
            self.check_span(text, cut(net, nodes).divided(few.factor), cut(net, nodes))

    def test_resistance(self):
        few, net = self.desk.summary_of("n"), net_of_summary(self.desk, "n")
        for piece in pieces(net):
            for first in piece:
                for second in piece:
                    text = "resistance n [ %s %s ]" % (first, second)
                    self.check_exact(text, resistance(self.desk.net_of("n"), first, second))
                    value = resistance(net, first, second)
                    self.check_span(text, value, few.factor * value)

    def test_forests_and_determinant(self):
        few, net = self.desk.summary_of("n"), net_of_summary(self.desk, "n")
        self.check_exact("forests n", forest_weight(self.desk.net_of("n")))
        self.check_span("forests n", forest_weight(net).divided(few.factor ** 3), forest_weight(net))
        for name, rank in (("a", 3), ("b", 1), ("c", 1)):
            few = self.desk.summary_of(name)
            value = determinant(few.book.core())
            self.check_exact("determinant " + name, determinant(self.desk.book_of(name).core()))
            self.check_span("determinant " + name, value.divided(few.factor ** rank), value)

    def test_cost(self):
        for name in "ab":
            few = self.desk.summary_of(name)
            cost = Fit(few.book).least_cost
            self.check_exact("cost " + name, Fit(self.desk.book_of(name)).least_cost)
            self.check_span("cost " + name, cost.divided(few.factor), cost)

    def test_without_loads(self):
        desk = desk_of("book a 2 2 9", "net n 2 9 u v")
        for text, wanted in (("energy a [ 1 2 ]", 0), ("power a [ 0 0 ]", 0), ("determinant a", 1), ("cost a", 0),
                             ("forests n", 1), ("cut n [ u ]", 0), ("resistance n [ u u ]", 0),
                             ("energy n [ 3 4 ]", 0), ("power n [ 0 0 ]", 0)):
            self.assertEqual(exactly(desk, text), Ratio(wanted))
            self.assertEqual(asked(desk, text), Span.point(Ratio(wanted)))


class Values(AnswerTest):
    def test_ratios(self):
        for text, wanted in (
                ("1", "1"), ("-3/4", "-3/4"), ("1 + 2 * 3", "7"), ("( 1 + 2 ) * 3", "9"), ("1 - 2 - 3", "-4"),
                ("1 - ( 2 - 3 )", "2"), ("2 * 3 * 1/6", "1"), ("2 - 3 * 2 + 1", "-3"), ("least ( 1 , -1/2 )", "-1/2"),
                ("greatest ( 1 , -1/2 )", "1"), ("least ( greatest ( 1 , 3 ) , 2 ) * -1", "-2"),
                ("least ( 1 + 1 , 3 ) - greatest ( 2 * 2 , 3 )", "-2")):
            self.check_exact(text, ratio(wanted))
            self.check_span(text, ratio(wanted), ratio(wanted))

    def test_spans(self):
        desk = self.desk
        one, two = asked(desk, "cost a"), asked(desk, "forests n")
        for text, wanted in (
                ("cost a + forests n", one + two), ("cost a - forests n", one - two),
                ("cost a * -2", one * Span.point(Ratio(-2))),
                ("cost a * forests n - cost a", one * two - one), ("cost a - cost a", one - one),
                ("( cost a - forests n ) * ( cost a - forests n )", (one - two) * (one - two)),
                ("least ( cost a , forests n )", one.least(two)),
                ("greatest ( cost a , 3 )", one.greatest(Span.point(Ratio(3)))),
                ("1/2 - cost a", Span.point(Ratio(1, 2)) - one)):
            got = asked(desk, text)
            self.assertIs(type(got), Span)
            self.assertEqual(got, wanted)
            self.assertTrue(exactly(desk, text) in got)
        # Two measures count as two numbers even if they are the same.
        self.assertEqual(exactly(desk, "cost a - cost a"), Ratio(0))
        self.assertEqual((one - one).length().sign(), 1)

    def test_at_most(self):
        low, high = asked(self.desk, "cost a").low, asked(self.desk, "cost a").high
        true = exactly(self.desk, "cost a")
        for text, exact, ask in (
                ("1 <= 2", True, True), ("2 <= 1", False, False), ("1 <= 1", True, True),
                ("cost a <= %s" % high.text(), True, True), ("cost a <= %s" % (high + ONE).text(), True, True),
                ("%s <= cost a" % low.text(), True, True), ("%s <= cost a" % high.text(), False, None),
                ("cost a <= %s" % low.text(), False, None), ("cost a <= %s" % true.text(), True, None),
                ("cost a <= %s" % (low - Ratio(1, 10 ** 9)).text(), False, False), ("cost a <= cost a", True, None),
                ("%s <= cost a" % (high + ONE).text(), False, False), ("cost a - cost a <= 0", True, None)):
            self.assertIs(exactly(self.desk, text), exact, text)
            self.assertIs(asked(self.desk, text), ask, text)

    def test_by_chance(self):
        random = Random(76)
        measures = ["energy a [ 1 -1 2 ]", "power a [ 1 0 1 ]", "pull a x", "pull n e", "cut n [ u ]", "cost b",
                    "cost a", "resistance n [ u w ]", "forests n", "determinant c", "energy n [ 1 2 0 0 -1 ]",
                    "-2", "1/3", "5"]

        def value(depth):
            if depth == 0 or random.random() < 0.2:
                return random.choice(measures)
            return random.choice(("( %s + %s )", "( %s - %s )", "%s * %s", "least ( %s , %s )", "greatest ( %s , %s )",
                                  "( %s * %s )")) % (value(depth - 1), value(depth - 1))

        whole = Desk.replayed(FIRST[:3] + FIRST[9:12] + FIRST[16:] + ("book d 2 2 9",))
        told = 0
        for _ in range(150):
            text = value(3)
            got, true = asked(self.desk, text), exactly(self.desk, text)
            self.assertTrue(true in got, text)
            text = "%s <= %s" % (value(2), value(2))
            got, true = asked(self.desk, text), exactly(self.desk, text)
            self.assertIs(type(true), bool)
            if got is not None:
                told += 1
                self.assertIs(got, true, text)
        self.assertGreater(told, 20)
        self.assertEqual([whole.summary_of(name).factor for name in whole.names()], [ONE] * 5)

    def test_all_factors_1(self):
        desk = Desk.replayed(FIRST)
        self.assertEqual([desk.summary_of(name).factor for name in desk.names()], [ONE] * 4)
        for text in ("energy a [ 1 -1 2 ]", "power a [ 1 0 1 ]", "pull a x", "pull n e", "cut n [ u ]", "cost b",
                     "cost a", "resistance n [ u w ]", "forests n", "determinant a",
                     "least ( cost a , pull a y ) - 2 * forests n"):
            self.assertEqual(asked(desk, text), Span.point(exactly(desk, text)))
            for other in ("cost b", "pull a x", "3"):
                question = "%s <= %s" % (text, other)
                self.assertIs(asked(desk, question), exactly(desk, question))

    def test_asking_changes_nothing(self):
        before = self.desk.report(), self.desk.deeds()
        question = Question("cost a + forests n - pull a x")
        first = self.desk.ask(question).text(), self.desk.exact(question).text()
        self.assertEqual((self.desk.ask(question).text(), self.desk.exact(question).text()), first)
        self.assertEqual((self.desk.report(), self.desk.deeds()), before)

    def test_a_question_is_asked_of_the_desk_as_it_is(self):
        question = Question("energy c [ 1 ]")
        self.assertEqual(self.desk.exact(question), Ratio(9))
        self.desk.do("put c y 1 2")
        self.assertEqual(self.desk.exact(question), Ratio(13))
        self.assertEqual(failure(Desk().exact, question), (NoName, {"name": "c"}))


class Errors(AnswerTest):
    def check(self, text, wanted):
        for call in (self.desk.exact, self.desk.ask):
            self.assertEqual(failure(call, Question(text)), wanted, text)

    def test_names(self):
        for text in ("energy q [ 1 ]", "power q [ 1 ]", "pull q q", "cut q [ z ]", "resistance q [ z z ]", "forests q",
                     "determinant q", "cost q"):
            self.check(text, (NoName, {"name": "q"}))

    def test_kinds(self):
        for text in ("cut a [ z ]", "resistance a [ z y ]", "forests a"):
            self.check(text, (WrongKind, {"name": "a"}))
        for text in ("determinant n", "cost n"):
            self.check(text, (WrongKind, {"name": "n"}))

    def test_numbers(self):
        for text in ("energy a [ 1 2 ]", "energy a [ 1 2 3 4 ]", "energy n [ 1 ]", "power a [ 1 ]",
                     "power n [ 0 0 0 0 ]", "power b [ 1 2 3 ]", "cost c"):
            self.check(text, (BadShape, {}))

    def test_pushes(self):
        self.check("power b [ 1 2 ]", (OutOfReach, {"push": (1, 2)}))
        self.check("power n [ 1 0 0 0 0 ]", (OutOfReach, {"push": (1, 0, 0, 0, 0)}))
        self.check("power n [ 1 0 0 -1 0 ]", (OutOfReach, {"push": (1, 0, 0, -1, 0)}))

    def test_nodes(self):
        self.check("cut n [ u z y ]", (NoNode, {"node": "z"}))
        self.check("resistance n [ z y ]", (NoNode, {"node": "z"}))
        self.check("resistance n [ u y ]", (NoNode, {"node": "y"}))
        self.check("resistance n [ z z ]", (NoNode, {"node": "z"}))
        self.check("resistance n [ u p ]", (Parted, {"first": "u", "second": "p"}))
        self.check("resistance n [ q w ]", (Parted, {"first": "q", "second": "w"}))

    def test_labels(self):
        self.check("pull a e", (NoLabel, {"label": "e"}))
        self.check("pull n x", (NoLabel, {"label": "x"}))
        self.check("pull b y", (NoLabel, {"label": "y"}))

    def test_order(self):
        self.check("1 + cost q * cost n <= pull a e", (NoName, {"name": "q"}))
        self.check("cost a + cost c - cost q", (BadShape, {}))
        self.check("pull a e <= cost q", (NoLabel, {"label": "e"}))
        self.check("least ( cost a , cut n [ z ] ) + cut a [ z ]", (NoNode, {"node": "z"}))
        self.check("forests a - forests q", (WrongKind, {"name": "a"}))
        self.check("( 0 - ( forests n + power b [ 1 2 ] ) ) * forests a", (OutOfReach, {"push": (1, 2)}))


if __name__ == "__main__":
    unittest.main()
