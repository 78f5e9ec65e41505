"""Points 72 and 73: deeds taken back and done again, lists of deeds, and desks made from them."""

import unittest
from random import Random

from fewcarry.desk.desk import Desk
from fewcarry.exact.errors import NothingToRedo, NothingToUndo, Refused, TwinLabel
from fewcarry.exact.ratio import Ratio
from tests.support import failure
from tests.test_desk import SMALL, desk_of, seen

# Deeds of all kinds, each of which can be done after those ahead of it.
ALL = (*SMALL, "thin a", "drop a y", "limit a 50", "merge b a", "put b k 1 2 3", "forget n", "net a 2 9 p q",
       "tie a x p q 3", "book n 1 2 1000", "put n x 1 1", "put n y 9 1", "thin n", "drop n y", "limit n 9", "drop a x",
       "forget b", "book b 3 2 9")


def whole(desk):
    """All that can be seen of a desk, and what it says after everything is taken back and done again."""
    twin = Desk()
    twin.do_all(desk.deeds())
    return seen(desk), seen(twin)


def redoable(desk):
    """How many deeds could be done again; the desk stays as it is."""
    many = 0
    while True:
        try:
            desk.do("redo")
        except NothingToRedo:
            break
        many += 1
    for _ in range(many):
        desk.do("undo")
    return many


class Undone(unittest.TestCase):
    def test_nothing(self):
        desk = Desk()
        self.assertEqual(failure(desk.do, "undo"), (NothingToUndo, {}))
        self.assertEqual(failure(desk.do, "redo"), (NothingToRedo, {}))
        desk.do("book a 1 2 9")
        self.assertEqual(failure(desk.do, "redo"), (NothingToRedo, {}))
        self.assertIs(desk.do("undo"), None)
        self.assertEqual(failure(desk.do, "undo"), (NothingToUndo, {}))
        self.assertIs(desk.do("redo"), None)
        self.assertEqual(failure(desk.do, "redo"), (NothingToRedo, {}))
        self.assertEqual(desk.names(), ["a"])

    def test_all_the_way_back_and_forth(self):
        desk, states = Desk(), []
        for deed in ALL:
            states.append(seen(desk))
            desk.do(deed)
        last = seen(desk)
        self.assertEqual(desk.deeds(), list(ALL))
        for state in states[::-1]:
            desk.do("undo")
            self.assertEqual(seen(desk), state)
        self.assertEqual(failure(desk.do, "undo"), (NothingToUndo, {}))
        for state in states[1:] + [last]:
            desk.do("redo")
            self.assertEqual(seen(desk), state)
        self.assertEqual(failure(desk.do, "redo"), (NothingToRedo, {}))

    def test_things_are_alive_after_undo_and_redo(self):
        desk = desk_of(*ALL[:12])
        for _ in range(12):
            desk.do("undo")
        for _ in range(12):
            desk.do("redo")
        other = desk_of(*ALL[:12])
        for deed in ALL[12:]:
            desk.do(deed)
            other.do(deed)
            self.assertEqual(seen(desk), seen(other))

    def test_undone_changes_of_a_watch(self):
        # The limit and the parameter are as before, too.
        desk = desk_of("book a 1 2 1000", "put a x 1 1", "put a y 9 1", "thin a", "limit a 9")
        desk.do("undo")
        desk.do("drop a y")
        self.assertEqual(desk.summary_of("a").factor, Ratio(10))
        desk.do("undo")
        desk.do("limit a 9")
        desk.do("drop a y")
        self.assertEqual(desk.summary_of("a").factor, Ratio(1))

    def test_order_of_names(self):
        desk = desk_of("book a 1 2 9", "book b 1 2 9", "book c 1 2 9", "forget a", "book a 1 2 9", "merge b c")
        self.assertEqual(desk.names(), ["b", "a"])
        for names in (["b", "c", "a"], ["b", "c"], ["a", "b", "c"], ["a", "b"]):
            desk.do("undo")
            self.assertEqual(desk.names(), names)
        for names in (["a", "b", "c"], ["b", "c"], ["b", "c", "a"], ["b", "a"]):
            desk.do("redo")
            self.assertEqual(desk.names(), names)
        desk.do("book c 2 2 9")
        self.assertEqual(desk.names(), ["b", "a", "c"])

    def test_other_deeds_end_redo(self):
        desk = desk_of(*SMALL)
        desk.do("undo")
        desk.do("undo")
        self.assertEqual(redoable(desk), 2)
        desk.do("drop a x")
        self.assertEqual(redoable(desk), 0)
        self.assertEqual(failure(desk.do, "redo"), (NothingToRedo, {}))
        self.assertEqual(desk.deeds(), [*SMALL[:-2], "drop a x"])
        desk.do("undo")
        self.assertEqual((desk.deeds(), redoable(desk)), (list(SMALL[:-2]), 1))

    def test_refused_deeds_do_not_count(self):
        desk = desk_of(*SMALL)
        desk.do("undo")
        for deed, error in (("drop a q", "NoLabel"), ("", "BadDeed"), ("book a 1 2 9", "TwinName"),
                            ("limit a 8", "BadFactor"), ("merge a n", "WrongKind"), ("put q x 1 1", "NoName")):
            self.assertEqual(failure(desk.do, deed)[0].__name__, error)
            self.assertEqual((desk.deeds(), redoable(desk)), (list(SMALL[:-1]), 1))
        desk.do("redo")
        self.assertEqual(desk.deeds(), list(SMALL))

    def test_redo_after_some(self):
        desk = desk_of(*SMALL)
        for _ in range(4):
            desk.do("undo")
        desk.do("redo")
        self.assertEqual((desk.deeds(), redoable(desk)), (list(SMALL[:-3]), 3))
        desk.do("undo")
        self.assertEqual((desk.deeds(), redoable(desk)), (list(SMALL[:-4]), 4))

    def test_by_chance(self):
        random = Random(73)
        desk, done, undone = Desk(), [], []
        seen_by_deeds = {(): seen(desk)}
        for _ in range(400):
            choice = random.random()
            if choice < 0.35:
                if done:
                    desk.do("undo")
                    undone.append(done.pop())
                else:
                    self.assertEqual(failure(desk.do, "undo"), (NothingToUndo, {}))
            elif choice < 0.6:
                if undone:
                    desk.do("redo")
                    done.append(undone.pop())
                else:
                    self.assertEqual(failure(desk.do, "redo"), (NothingToRedo, {}))
            else:
                deed = random.choice(ALL + ALL[:8])
                before = seen(desk)
                try:
                    desk.do(deed)
                    done.append(deed)
                    undone = []
                except ValueError:
                    self.assertEqual(seen(desk), before)
            self.assertEqual(desk.deeds(), done)
            self.assertEqual(seen_by_deeds.setdefault(tuple(done), seen(desk)), seen(desk))
        self.assertGreater(len(seen_by_deeds), 20)


class Lists(unittest.TestCase):
    def test_replayed(self):
        for many in range(len(ALL) + 1):
            desk = Desk.replayed(ALL[:many])
            self.assertIs(type(desk), Desk)
            self.assertEqual(seen(desk), seen(desk_of(*ALL[:many])))
            self.assertEqual(seen(Desk.replayed(desk.deeds())), seen(desk))
        self.assertEqual(failure(desk.do, "redo"), (NothingToRedo, {}))

    def test_replayed_with_undo_and_redo(self):
        desk = Desk.replayed(["book a 1 2 9", "put a x 1 1", "undo", "undo", "redo", "put a y 1 1", "undo"])
        self.assertEqual((desk.deeds(), redoable(desk)), (["book a 1 2 9"], 1))

    def test_replayed_refuses(self):
        with self.assertRaises(Refused) as caught:
            Desk.replayed(["book a 1 2 9", "put a x 1 1", "put a x 1 1"])
        self.assertEqual((caught.exception.at, type(caught.exception.__cause__)), (2, TwinLabel))
        with self.assertRaises(Refused) as caught:
            Desk.replayed(["undo"])
        self.assertEqual((caught.exception.at, type(caught.exception.__cause__)), (0, NothingToUndo))

    def test_do_all(self):
        desk, other = desk_of(*ALL[:5]), desk_of(*ALL[:5])
        deeds = list(ALL[5:])
        self.assertIs(desk.do_all(deeds), None)
        for deed in deeds:
            other.do(deed)
        self.assertEqual(seen(desk), seen(other))
        self.assertEqual(deeds, list(ALL[5:]))
        # One deed is taken back, not the whole list.
        desk.do("undo")
        other.do("undo")
        self.assertEqual(seen(desk), seen(other))
        self.assertIs(desk.do_all([]), None)
        desk.do_all(("redo",))
        self.assertEqual(desk.deeds(), list(ALL))

    def test_undo_and_redo_within_a_list(self):
        desk = desk_of(*SMALL)
        desk.do_all(["undo", "undo", "redo", "undo", "drop a x", "undo", "redo", "undo"])
        self.assertEqual((desk.deeds(), redoable(desk)), (list(SMALL[:-2]), 1))
        desk.do("redo")
        self.assertEqual(desk.deeds(), [*SMALL[:-2], "drop a x"])

    def test_all_or_none(self):
        desk = desk_of(*SMALL)
        desk.do("undo")
        desk.do("undo")
        before = seen(desk), redoable(desk)
        for deeds, at, error, fields in (
                (["drop a x", "drop a x"], 1, "NoLabel", {"label": "x"}),
                (["redo", "redo", "redo"], 2, "NothingToRedo", {}),
                (["undo"] * 9, 8, "NothingToUndo", {}),
                (["thin a", "redo"], 1, "NothingToRedo", {}),
                (["forget a", "forget n", "names"], 2, "BadDeed", {"deed": "names"}),
                (["book a 1 2 9"], 0, "TwinName", {"name": "a"}),
                (["undo", "redo", "redo", "limit a 20", "limit a 8"], 4, "BadFactor", {"factor": Ratio(8)}),
                (["put a k 1 1 1", "merge a n"], 1, "WrongKind", {"name": "n"}),
                (["forget a", "thin a", "thin b"], 1, "NoName", {"name": "a"})):
            with self.assertRaises(Refused) as caught:
                desk.do_all(deeds)
            cause = caught.exception.__cause__
            self.assertEqual((caught.exception.at, type(cause).__name__, vars(cause)), (at, error, fields))
            self.assertEqual((seen(desk), redoable(desk)), before)

    def test_replayed_holds_the_same(self):
        desk = desk_of(*ALL)
        self.assertEqual(*whole(desk))


if __name__ == "__main__":
    unittest.main()
