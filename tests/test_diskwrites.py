"""[41], [42]: the WRITES of DEEDS, and the TREE that is MENDED behind them."""

import copy
import unittest

from drawerways.disks import disk_of, mended, written
from drawerways.diskwrites import writes_of
from drawerways.trees import EMPTY

from model import Model, modelled
from things import BESIDE, CHAIN, DEEP, SHEETS, SMALL, TREES, deeds, just_tuples

TURNING = ("made", "dropped", "linked", "moved", "swapped")

# An empty drawer, a sheet with one NAME, one with two, a full drawer.
KINDS = (
    (
        (0, "drawer", (("d", 1), ("e", 2), ("f", 5), ("s", 3), ("t", 4))),
        (1, "drawer", ()),
        (2, "drawer", ()),
        (3, "sheet", ()),
        (4, "sheet", ()),
        (5, "drawer", (("t", 4), ("u", 6))),
        (6, "sheet", ()),
    ),
    8,
)


def writes_due(tree, deed):
    """The WRITES of a DEED, by the model."""
    model = Model(tree)
    word, told = deed[0], modelled(tree, deed)[1][0]
    if told not in TURNING:
        return ()
    drawer = model.drawer(deed[1])[0]
    if word == "make":
        return (("make", drawer, deed[1][-1], deed[2]),)
    if word == "drop":
        return (("entry", drawer, deed[1][-1], None),)
    other = model.drawer(deed[2])[0]
    s, t = model.inside[drawer].get(deed[1][-1]), model.inside[other].get(deed[2][-1])
    enters = ("entry", other, deed[2][-1], s)
    if word == "link":
        return (enters,)
    leaves = ("entry", drawer, deed[1][-1], t if word == "swap" else None)
    return (("journal", (leaves, enters)), leaves, enters, ("journal", None))


class WritesOf(unittest.TestCase):
    def writes(self, tree, deed, due):
        found = writes_of(tree, deed)
        self.assertEqual(found, due, deed)
        self.assertTrue(just_tuples(found))
        self.assertEqual(writes_of(deed=deed, tree=tree), due)
        self.mends(tree, deed, due)

    def mends(self, tree, deed, writes):
        """Behind its first WRITE each DEED is done, once mended; ahead of it nothing is."""
        newer, _ = modelled(tree, deed)
        disk = disk_of(tree)
        self.assertEqual(mended(disk), tree)
        for write in writes:
            disk = written(disk, (write,))
            self.assertEqual(mended(disk), newer, deed)
        self.assertEqual(mended(disk), newer)
        self.assertEqual(mended(disk_of(mended(disk))), newer)
        self.assertIsNone(disk[2])
        if len(writes) == 4:
            out, enter = writes[1:3]
            for many in (1, 2, 3):
                stands = written(disk_of(tree), writes[:many])
                for again in ((out,), (enter,), (out, enter), (enter, out), (enter, out, enter, out)):
                    self.assertEqual(mended(written(stands, again)), newer)
                for again in ((out, enter), (enter, out)):
                    self.assertEqual(mended(written(stands, again + writes[3:])), newer)

    def four(self, out, enter):
        return (("journal", (out, enter)), out, enter, ("journal", None))

    def test_look_and_list(self):
        for tree in TREES + [KINDS]:
            for way in ((), ("a",), ("b", "a"), ("x",)):
                self.writes(tree, ("look", way), ())
                self.writes(tree, ("list", way), ())

    def test_make(self):
        self.writes(EMPTY, ("make", ("a",), "drawer"), (("make", 0, "a", "drawer"),))
        self.writes(SMALL, ("make", ("a", "z"), "sheet"), (("make", 1, "z", "sheet"),))
        self.writes(DEEP, ("make", ("a", "a", "z"), "sheet"), (("make", 3, "z", "sheet"),))
        for deed in (("make", ("a",), "drawer"), ("make", ("x", "y"), "sheet"), ("make", ("b", "y"), "sheet")):
            self.writes(SMALL, deed, ())

    def test_drop(self):
        self.writes(SMALL, ("drop", ("b",)), (("entry", 0, "b", None),))
        self.writes(SMALL, ("drop", ("a",)), (("entry", 0, "a", None),))
        self.writes(KINDS, ("drop", ("t",)), (("entry", 0, "t", None),))
        self.writes(KINDS, ("drop", ("f", "t")), (("entry", 5, "t", None),))
        for deed in (("drop", ("f",)), ("drop", ("x",)), ("drop", ("s", "y")), ("drop", ("x", "y"))):
            self.writes(KINDS, deed, ())

    def test_link(self):
        self.writes(SMALL, ("link", ("b",), ("a", "m")), (("entry", 1, "m", 3),))
        self.writes(KINDS, ("link", ("f", "u"), ("a",)), (("entry", 0, "a", 6),))
        for deed in (("link", ("d",), ("z",)), ("link", ("s",), ("d",)), ("link", ("s",), ("s",)),
                     ("link", ("x",), ("z",)), ("link", ("s",), ("x", "z")), ("link", ("s", "a"), ("z",))):
            self.writes(KINDS, deed, ())

    def test_move_onto_nothing(self):
        self.writes(KINDS, ("move", ("s",), ("d", "z")), self.four(("entry", 0, "s", None), ("entry", 1, "z", 3)))
        self.writes(KINDS, ("move", ("f",), ("d", "z")), self.four(("entry", 0, "f", None), ("entry", 1, "z", 5)))
        self.writes(KINDS, ("move", ("f", "u"), ("f", "a")), self.four(("entry", 5, "u", None), ("entry", 5, "a", 6)))
        self.writes(KINDS, ("move", ("f", "t"), ("z",)), self.four(("entry", 5, "t", None), ("entry", 0, "z", 4)))

    def test_move_onto_a_sheet(self):
        # With one NAME it lives no more, with two it has one less.
        self.writes(KINDS, ("move", ("f", "u"), ("s",)), self.four(("entry", 5, "u", None), ("entry", 0, "s", 6)))
        self.assertNotIn((3, "sheet", ()), modelled(KINDS, ("move", ("f", "u"), ("s",)))[0][0])
        self.writes(KINDS, ("move", ("f", "u"), ("t",)), self.four(("entry", 5, "u", None), ("entry", 0, "t", 6)))
        self.assertIn((4, "sheet", ()), modelled(KINDS, ("move", ("f", "u"), ("t",)))[0][0])
        self.writes(KINDS, ("move", ("s",), ("f", "t")), self.four(("entry", 0, "s", None), ("entry", 5, "t", 3)))

    def test_move_onto_an_empty_drawer(self):
        self.writes(KINDS, ("move", ("f",), ("d",)), self.four(("entry", 0, "f", None), ("entry", 0, "d", 5)))
        self.writes(BESIDE, ("move", ("b", "b"), ("a", "a")), self.four(("entry", 2, "b", None), ("entry", 7, "a", 4)))

    def test_moves_that_turn_nothing(self):
        for deed in (
            ("move", ("s",), ("s",)), ("move", ("t",), ("f", "t")), ("move", ("f",), ("f", "z")),
            ("move", ("s",), ("d",)), ("move", ("d",), ("s",)), ("move", ("d",), ("f",)), ("move", ("x",), ("z",)),
            ("move", ("s",), ("x", "z")), ("move", ("s", "a"), ("z",)), ("move", ("s",), ("t", "z")),
        ):
            self.writes(KINDS, deed, ())

    def test_swap_within_one_drawer(self):
        self.writes(KINDS, ("swap", ("d",), ("s",)), self.four(("entry", 0, "d", 3), ("entry", 0, "s", 1)))
        self.writes(KINDS, ("swap", ("f",), ("e",)), self.four(("entry", 0, "f", 2), ("entry", 0, "e", 5)))
        self.writes(KINDS, ("swap", ("f", "u"), ("f", "t")), self.four(("entry", 5, "u", 4), ("entry", 5, "t", 6)))

    def test_swap_between_two(self):
        self.writes(KINDS, ("swap", ("d",), ("f", "u")), self.four(("entry", 0, "d", 6), ("entry", 5, "u", 1)))
        self.writes(KINDS, ("swap", ("f", "u"), ("d",)), self.four(("entry", 5, "u", 1), ("entry", 0, "d", 6)))
        self.writes(CHAIN, ("swap", ("a", "a"), ("b",)), self.four(("entry", 4, "a", 5), ("entry", 0, "b", 2)))
        for deed in (("swap", ("t",), ("f", "t")), ("swap", ("f",), ("f", "u")), ("swap", ("f", "u"), ("f",)),
                     ("swap", ("s",), ("z",)), ("swap", ("z",), ("s",)), ("swap", ("s",), ("s",))):
            self.writes(KINDS, deed, ())

    def test_all(self):
        words = set()
        for tree in TREES:
            for deed in deeds(("a", "b", "c"), 2)[::3] + deeds(("a", "b"), 1):
                due = writes_due(tree, deed)
                self.assertEqual(writes_of(tree, deed), due)
                self.mends(tree, deed, due)
                words.add((deed[0], len(due)))
        self.assertEqual(
            words,
            {("look", 0), ("list", 0)} | {(word, 0) for word in ("make", "drop", "link", "move", "swap")}
            | {("make", 1), ("drop", 1), ("link", 1), ("move", 4), ("swap", 4)},
        )

    def test_one_deed_behind_another_on_the_same_disk(self):
        some = [deed for deed in deeds(("a", "b", "c"), 2) if deed[0] not in ("look", "list")]
        for start, tree in enumerate(TREES):
            disk, at = disk_of(tree), tree
            for deed in some[start::37]:
                disk = written(disk, writes_of(at, deed))
                at, _ = modelled(at, deed)
                self.assertEqual(mended(disk), at)
                self.assertEqual(disk[1:], (at[1], None))
                self.assertLessEqual(set(at[0]), set(disk[0]))

    def test_nothing_is_changed(self):
        some = deeds(("a", "b"), 1)
        kept = copy.deepcopy((TREES, SHEETS, some))
        for tree in TREES:
            for deed in some:
                writes_of(tree, deed)
        self.assertEqual(repr((TREES, SHEETS, some)), repr(kept))


if __name__ == "__main__":
    unittest.main()
