"""[43]: CUTS."""

import copy
import unittest

from drawerways.cutchecker import lets_cuts
from drawerways.cuts import cuts
from drawerways.disks import disk_of, mended, written
from drawerways.diskwrites import writes_of
from drawerways.trees import EMPTY, is_tree

from logs import ROWS, cuts_due, trees_behind
from model import modelled
from things import SMALL, TREES, deeds, just_tuples


class Cuts(unittest.TestCase):
    def test_no_deeds(self):
        for tree in TREES:
            self.assertEqual(cuts(tree, ()), ((0, tree),))

    def test_deeds_that_all_turn_nothing(self):
        still = (("look", ("a",)), ("list", ()), ("drop", ("x",)), ("make", ("a",), "sheet"), ("swap", ("b",), ("b",)))
        for many in range(len(still) + 1):
            self.assertEqual(cuts(SMALL, still[:many]), ((many, SMALL),))

    def test_one_deed(self):
        made = (((0, "drawer", (("a", 1),)), (1, "sheet", ())), 2)
        self.assertEqual(cuts(EMPTY, (("make", ("a",), "sheet"),)), ((0, EMPTY), (1, made)))
        linked = (((0, "drawer", (("a", 1), ("b", 1))), (1, "sheet", ())), 2)
        self.assertEqual(cuts(made, (("link", ("a",), ("b",)),)), ((0, made), (1, linked)))
        dropped = (((0, "drawer", ()),), 2)
        self.assertEqual(cuts(made, (("drop", ("a",)),)), ((0, made), (1, dropped)))
        moved = (((0, "drawer", (("b", 1),)), (1, "sheet", ())), 2)
        self.assertEqual(
            cuts(made, (("move", ("a",), ("b",)),)), ((0, made), (1, moved), (1, moved), (1, moved), (1, moved)))

    def test_a_move_between_others(self):
        tree = (((0, "drawer", (("a", 1),)), (1, "sheet", ())), 2)
        made = (((0, "drawer", (("a", 1), ("c", 2))), (1, "sheet", ()), (2, "sheet", ())), 3)
        moved = (((0, "drawer", (("b", 1), ("c", 2))), (1, "sheet", ()), (2, "sheet", ())), 3)
        dropped = (((0, "drawer", (("b", 1),)), (1, "sheet", ())), 3)
        row = (
            ("list", ()), ("make", ("c",), "sheet"), ("look", ("c",)), ("move", ("a",), ("b",)), ("look", ("a",)),
            ("look", ("b",)), ("drop", ("c",)), ("look", ("c",)),
        )
        self.assertEqual(
            cuts(tree, row),
            ((1, tree), (3, made), (4, moved), (4, moved), (4, moved), (6, moved), (8, dropped)),
        )

    def test_rows(self):
        for tree, row in ROWS:
            found = cuts(tree, row)
            self.assertEqual(found, tuple(cuts_due(tree, row)))
            self.assertEqual(cuts(deeds=row, tree=tree), found)
            self.assertTrue(just_tuples(found))
            behind = trees_behind(tree, row)
            for many, at in found:
                self.assertIs(is_tree(at), True)
                self.assertEqual(at, behind[many])
            self.assertEqual(lets_cuts(tree, row, tuple(many for many, _ in found)), len(found))

    def test_the_trees_are_mended_ones(self):
        for tree, row in ROWS:
            disk, at, due = disk_of(tree), tree, [tree]
            for deed in row:
                for write in writes_of(at, deed):
                    disk = written(disk, (write,))
                    due.append(mended(disk))
                at, _ = modelled(at, deed)
            self.assertEqual([at for _, at in cuts(tree, row)], due)

    def test_all_pairs_of_some_deeds(self):
        some = deeds(("a", "b"), 1)
        for tree in TREES:
            for one in some[::2]:
                for other in some[1::3]:
                    row = (one, other, ("look", ()))
                    self.assertEqual(cuts(tree, row), tuple(cuts_due(tree, row)))

    def test_nothing_is_changed(self):
        kept = copy.deepcopy(ROWS)
        for tree, row in ROWS:
            cuts(tree, row)
        self.assertEqual(repr(ROWS), repr(kept))


if __name__ == "__main__":
    unittest.main()
