"""[40], [42]: DISKS, WRITES, and TREES that are MENDED."""

import copy
import unittest

from drawerways.disks import disk_of, mended, written
from drawerways.trees import EMPTY, is_tree

from model import modelled
from things import BESIDE, SHEETS, SMALL, TREES, just_tuples

# What a "move" of the sheet into the drawer writes, and a "swap" of both.
OUT = ("entry", 0, "b", None)
IN = ("entry", 1, "z", 3)
MOVE = (("journal", (OUT, IN)), OUT, IN, ("journal", None))

MOVED = (((0, "drawer", (("a", 1),)), (1, "drawer", (("z", 3),)), (3, "sheet", ())), 4)


class DiskOf(unittest.TestCase):
    def test_all(self):
        for tree in TREES:
            found = disk_of(tree)
            self.assertEqual(found, (tree[0], tree[1], None))
            self.assertTrue(just_tuples(found) and len(found) == 3)
            self.assertEqual(disk_of(tree=tree), found)


class Written(unittest.TestCase):
    def comes(self, tree, writes, rows, made, journal):
        found = written(disk_of(tree), writes)
        self.assertEqual(found, (rows, made, journal))
        self.assertTrue(just_tuples(found))
        disk = disk_of(tree)
        for write in writes:
            disk = written(disk, (write,))
        self.assertEqual(disk, found)

    def test_no_writes(self):
        for tree in TREES:
            self.comes(tree, (), tree[0], tree[1], None)
        disk = written(disk_of(SMALL), MOVE[:2])
        self.assertEqual(written(disk, ()), disk)

    def test_an_entry_more(self):
        self.comes(
            SMALL, (("entry", 1, "m", 3),),
            ((0, "drawer", (("a", 1), ("b", 3))), (1, "drawer", (("m", 3),)), (3, "sheet", ())), 4, None)
        for name, due in (
            ("aa", (("a", 1), ("aa", 3), ("b", 3))), ("c", (("a", 1), ("b", 3), ("c", 3))),
        ):
            self.comes(
                SMALL, (("entry", 0, name, 3),), ((0, "drawer", due), (1, "drawer", ()), (3, "sheet", ())), 4, None)

    def test_an_entry_with_another_node(self):
        self.comes(
            SMALL, (("entry", 0, "b", 1), ("entry", 0, "a", 3)),
            ((0, "drawer", (("a", 3), ("b", 1))), (1, "drawer", ()), (3, "sheet", ())), 4, None)
        self.comes(SMALL, (("entry", 0, "a", 1),), SMALL[0], 4, None)

    def test_an_entry_less(self):
        # What lives no more stays written.
        self.comes(
            SMALL, (("entry", 0, "b", None),),
            ((0, "drawer", (("a", 1),)), (1, "drawer", ()), (3, "sheet", ())), 4, None)
        self.comes(
            SMALL, (("entry", 0, "b", None), ("entry", 0, "a", None)),
            ((0, "drawer", ()), (1, "drawer", ()), (3, "sheet", ())), 4, None)
        self.comes(SMALL, (("entry", 0, "x", None),), SMALL[0], 4, None)

    def test_a_make(self):
        self.comes(
            SMALL, (("make", 1, "z", "sheet"), ("make", 1, "y", "drawer"), ("make", 5, "y", "sheet")),
            (
                (0, "drawer", (("a", 1), ("b", 3))), (1, "drawer", (("y", 5), ("z", 4))), (3, "sheet", ()),
                (4, "sheet", ()), (5, "drawer", (("y", 6),)), (6, "sheet", ()),
            ), 7, None)
        self.comes(EMPTY, (("make", 0, "a", "drawer"),), ((0, "drawer", (("a", 1),)), (1, "drawer", ())), 2, None)
        # NODES that live no more are made no second time.
        self.comes(BESIDE, (("make", 8, "a", "sheet"),), tuple(
            (node, kind, (("a", 10),) if node == 8 else entries) for node, kind, entries in BESIDE[0]
        ) + ((10, "sheet", ()),), 11, None)

    def test_a_journal(self):
        note = (OUT, IN)
        self.comes(SMALL, (("journal", note),), SMALL[0], 4, note)
        self.comes(SMALL, (("journal", note), ("journal", None)), SMALL[0], 4, None)
        self.comes(SMALL, (("journal", None),), SMALL[0], 4, None)
        self.comes(SMALL, (("journal", note), ("journal", (IN, OUT))), SMALL[0], 4, (IN, OUT))

    def test_a_move(self):
        note = (OUT, IN)
        rows_out = ((0, "drawer", (("a", 1),)), (1, "drawer", ()), (3, "sheet", ()))
        for many, rows, journal in (
            (0, SMALL[0], None), (1, SMALL[0], note), (2, rows_out, note), (3, MOVED[0], note), (4, MOVED[0], None),
        ):
            self.comes(SMALL, MOVE[:many], rows, 4, journal)

    def test_goes_on_with_what_is_written(self):
        dropped = written(disk_of(SMALL), (("entry", 0, "b", None),))
        self.assertEqual(
            written(dropped, (("make", 1, "b", "sheet"),)),
            (
                ((0, "drawer", (("a", 1),)), (1, "drawer", (("b", 4),)), (3, "sheet", ()), (4, "sheet", ())), 5, None,
            ),
        )

    def test_by_name_and_nothing_is_changed(self):
        self.assertEqual(written(writes=(), disk=disk_of(SMALL)), disk_of(SMALL))
        disk = written(disk_of(SMALL), MOVE[:2])
        kept = copy.deepcopy((SMALL, MOVE, disk))
        written(disk, MOVE)
        mended(disk)
        disk_of(SMALL)
        self.assertEqual(repr((SMALL, MOVE, disk)), repr(kept))


class Mended(unittest.TestCase):
    def comes(self, disk, tree):
        found = mended(disk)
        self.assertEqual(found, tree)
        self.assertTrue(just_tuples(found))
        self.assertIs(is_tree(found), True)
        # MENDED twice is MENDED once.
        self.assertEqual(mended(disk_of(found)), found)
        self.assertEqual(mended(disk=disk), found)

    def test_of_a_tree(self):
        for tree in TREES:
            self.comes(disk_of(tree), tree)

    def test_nodes_that_live_no_more(self):
        dropped = written(disk_of(SMALL), (("entry", 0, "b", None),))
        self.comes(dropped, (((0, "drawer", (("a", 1),)), (1, "drawer", ())), 4))
        dropped = written(dropped, (("entry", 0, "a", None),))
        self.comes(dropped, (((0, "drawer", ()),), 4))
        # A sheet that has another NAME goes on living.
        left = written(disk_of(SHEETS), (("entry", 0, "a", None), ("entry", 0, "c", None)))
        self.comes(left, (((0, "drawer", (("b", 1),)), (1, "sheet", ())), 2))
        left = written(left, (("entry", 0, "b", None), ("make", 0, "b", "drawer")))
        self.comes(left, (((0, "drawer", (("b", 2),)), (2, "drawer", ())), 3))

    def test_a_journal_that_stands(self):
        for many, tree in ((0, SMALL), (1, MOVED), (2, MOVED), (3, MOVED), (4, MOVED)):
            disk = written(disk_of(SMALL), MOVE[:many])
            self.comes(disk, tree)
        # OUT and IN may be done again, in either order, and the disk is mended to the same.
        for many in (1, 2, 3):
            disk = written(disk_of(SMALL), MOVE[:many])
            for again in ((OUT,), (IN,), (OUT, IN), (IN, OUT), (OUT, IN, OUT, IN), (IN, IN, OUT)):
                self.comes(written(disk, again), MOVED)

    def test_a_swap(self):
        deed = ("swap", ("a", "a"), ("b",))
        tree, told = modelled(BESIDE, deed)
        self.assertEqual(told, ("swapped", 8, 2))
        note = (("entry", 7, "a", 2), ("entry", 0, "b", 8))
        writes = (("journal", note),) + note + (("journal", None),)
        for many in range(5):
            disk = written(disk_of(BESIDE), writes[:many])
            self.comes(disk, tree if many else BESIDE)
        self.comes(written(written(disk_of(BESIDE), writes[:1]), (note[1], note[0])), tree)
        # Just one of both done, without a NOTE, would leave a NODE in two drawers, or in none.
        self.assertFalse(is_tree(mended(written(disk_of(BESIDE), note[:1]))))

    def test_a_move_onto_an_empty_drawer(self):
        # BESIDE has the empty drawer 4 in 2 and 8 in 7.
        note = (("entry", 2, "b", None), ("entry", 7, "a", 4))
        tree, told = modelled(BESIDE, ("move", ("b", "b"), ("a", "a")))
        self.assertEqual(told, ("moved", 4))
        writes = (("journal", note),) + note + (("journal", None),)
        for many in range(1, 5):
            disk = written(disk_of(BESIDE), writes[:many])
            self.assertIn((8, "drawer", ()), disk[0])
            self.comes(disk, tree)
        self.assertNotIn(8, [node for node, _, _ in tree[0]])

    def test_made_stands_though_its_node_does_not(self):
        disk = written(disk_of(EMPTY), (("make", 0, "a", "sheet"), ("entry", 0, "a", None)))
        self.assertEqual(disk, (((0, "drawer", ()), (1, "sheet", ())), 2, None))
        self.comes(disk, (((0, "drawer", ()),), 2))


if __name__ == "__main__":
    unittest.main()
