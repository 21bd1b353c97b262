"""[11], [12]: TREES, EMPTY, the kind and the ENTRIES of a NODE."""

import copy
import unittest

from drawerways.errors import NoStep, RunError
from drawerways.trees import EMPTY, entries_of, is_tree, kind_of

import model
from things import (
    BESIDE, CHAIN, DEEP, EMPTY_TREE, HUGE, NEVER, SHEETS, SMALL, TREES, changed, deep, just_tuples, spoiled,
)

TOP = (0, "drawer", ())

# Each breaks one rule of [3].
NO_TREES = {
    "no pair": (EMPTY_TREE[0], 1, 1),
    "one thing": (EMPTY_TREE[0],),
    "void": (),
    "no rows": ((), 0),
    "no rows, one made": ((), 1),
    "made no more than the top": ((TOP,), 0),
    "made no NUMBER": ((TOP,), True),
    "made below 0": ((TOP,), -1),
    "made is a text": ((TOP,), "1"),
    "made is a tuple": ((TOP,), (1,)),
    "a node that is not below made": (((0, "drawer", (("a", 2),)), (2, "sheet", ())), 2),
    "a node above made": (((0, "drawer", (("a", 5),)), (5, "sheet", ())), 2),
    "the top is a sheet": (((0, "sheet", ()),), 1),
    "no top": (((1, "drawer", ()),), 2),
    "no top, a drawer in itself": (((1, "drawer", (("a", 1),)),), 2),
    "the top in itself": (((0, "drawer", (("a", 0),)),), 1),
    "the top in another one": (((0, "drawer", (("a", 1),)), (1, "drawer", (("a", 0),))), 2),
    "a NODE without a row": (((0, "drawer", (("a", 1),)),), 2),
    "a NODE without a row, low": (((0, "drawer", (("a", 1), ("b", 2))), (2, "drawer", ())), 3),
    "a sheet that stands nowhere": ((TOP, (1, "sheet", ())), 2),
    "a drawer that stands nowhere": ((TOP, (1, "drawer", ())), 2),
    "a drawer twice in one": (((0, "drawer", (("a", 1), ("b", 1))), (1, "drawer", ())), 2),
    "a drawer in two": (
        ((0, "drawer", (("a", 1), ("b", 2))), (1, "drawer", ()), (2, "drawer", (("a", 1),))), 3),
    "a drawer in itself": ((TOP, (1, "drawer", (("a", 1),))), 2),
    "a ring of two": ((TOP, (1, "drawer", (("a", 2),)), (2, "drawer", (("a", 1),))), 3),
    "a ring of three, and a sheet": (
        ((0, "drawer", (("a", 4),)), (1, "drawer", (("a", 2),)), (2, "drawer", (("a", 3),)),
         (3, "drawer", (("a", 1), ("b", 4))), (4, "sheet", ())), 5),
    "a sheet in a ring alone": (
        (TOP, (1, "drawer", (("a", 2),)), (2, "drawer", (("a", 1), ("b", 3))), (3, "sheet", ())), 4),
    "a sheet with ENTRIES": (((0, "drawer", (("a", 1), ("b", 2))), (1, "sheet", (("a", 2),)), (2, "sheet", ())), 3),
    "rows that fall": (((1, "sheet", ()), (0, "drawer", (("a", 1),))), 2),
    "rows that fall behind the top": (
        ((0, "drawer", (("a", 1), ("b", 2))), (2, "sheet", ()), (1, "sheet", ())), 3),
    "a row twice": ((TOP, TOP), 1),
    "a row twice, a sheet's": (((0, "drawer", (("a", 1),)), (1, "sheet", ()), (1, "sheet", ())), 2),
    "two rows of a NODE": (((0, "drawer", (("a", 1),)), (1, "drawer", ()), (1, "sheet", ())), 2),
    "NAMES that fall": (((0, "drawer", (("b", 1), ("a", 2))), (1, "sheet", ()), (2, "sheet", ())), 3),
    "a NAME twice": (((0, "drawer", (("a", 1), ("a", 2))), (1, "sheet", ()), (2, "sheet", ())), 3),
    "an entry twice": (((0, "drawer", (("a", 1), ("a", 1))), (1, "sheet", ())), 2),
    "no NAME": (((0, "drawer", (("A", 1),)), (1, "sheet", ())), 2),
    "a long NAME": (((0, "drawer", (("abcdefghi", 1),)), (1, "sheet", ())), 2),
    "a third kind": (((0, "drawer", (("a", 1),)), (1, "file", ())), 2),
    "a kind near one": (((0, "drawer", (("a", 1),)), (1, "sheets", ())), 2),
    "no kind": (((0, "drawer", (("a", 1),)), (1, None, ())), 2),
    "a truth as a NODE": (((0, "drawer", (("a", 1),)), (True, "sheet", ())), 2),
    "a truth in ENTRIES": (((0, "drawer", (("a", True),)), (1, "sheet", ())), 2),
    "a truth as the top": (((False, "drawer", ()),), 1),
    "a NODE below 0": (((-1, "sheet", ()), (0, "drawer", (("a", -1),))), 2),
    "an entry of three": (((0, "drawer", (("a", 1, 1),)), (1, "sheet", ())), 2),
    "an entry of one": (((0, "drawer", (("a",),)),), 2),
    "a row of two": (((0, "drawer"),), 1),
    "a row of four": (((0, "drawer", (), ()),), 1),
    "rows in a list": ([TOP], 1),
    "a list": [(TOP,), 1],
    "a row that is a list": (([0, "drawer", ()],), 1),
    "ENTRIES in a list": (((0, "drawer", []),), 1),
    "a sheet's ENTRIES in a list": (((0, "drawer", (("a", 1),)), (1, "sheet", [])), 2),
    "an entry that is a list": (((0, "drawer", (["a", 1],)), (1, "sheet", ())), 2),
    "rows alone": (TOP,),
    "a text": "1 0:",
}

NO_NODES = [thing for thing in NEVER] + [HUGE, 100, "node", "drawer", (0,), (1,), [3], deep(40, 3)]


class Trees(unittest.TestCase):
    def test_empty(self):
        self.assertEqual(EMPTY, (((0, "drawer", ()),), 1))
        self.assertTrue(just_tuples(EMPTY))
        self.assertIs(is_tree(EMPTY), True)

    def test_trees(self):
        for tree in TREES:
            self.assertIs(is_tree(tree), True, tree)

    def test_no_bounds(self):
        names = [chr(97 + one) + chr(97 + other) for one in range(26) for other in range(26)]
        wide = (((0, "drawer", tuple((name, 1) for name in names)), (1, "sheet", ())), 2)
        self.assertIs(is_tree(wide), True)
        rows = tuple((node, "drawer", (("a", node + 1),)) for node in range(300)) + ((300, "drawer", ()),)
        self.assertIs(is_tree((rows, 301)), True)
        self.assertIs(is_tree((rows, HUGE)), True)
        self.assertIs(is_tree((rows[:-1], 301)), False)
        self.assertIs(is_tree((rows, 300)), False)
        high = (((0, "drawer", (("a", HUGE),)), (HUGE, "sheet", ())), HUGE + 1)
        self.assertIs(is_tree(high), True)
        self.assertIs(is_tree((high[0], HUGE)), False)

    def test_made_may_be_far_above(self):
        self.assertIs(is_tree((SMALL[0], 60)), True)
        self.assertIs(is_tree((EMPTY[0], 7)), True)

    def test_no_trees(self):
        for why, thing in NO_TREES.items():
            self.assertIs(is_tree(thing), False, why)

    def test_a_thing_in_the_place_of_each_part(self):
        for tree in (EMPTY_TREE, SMALL, SHEETS, DEEP):
            for thing in spoiled(tree):
                self.assertIs(is_tree(thing), False, thing)

    def test_small_changes(self):
        seen = set()
        for tree in (EMPTY_TREE, SMALL, SHEETS, BESIDE):
            for thing in changed(tree):
                right = model.tree(thing)
                seen.add(right)
                self.assertIs(is_tree(thing), right, thing)
        self.assertEqual(seen, {True, False})

    def test_any_thing(self):
        for thing in NEVER + [deep(40, EMPTY_TREE), (deep(39), 1), ((deep(38),), 1), (EMPTY_TREE[0], deep(39))]:
            self.assertIs(is_tree(thing), False, thing)
        self.assertIs(is_tree((tuple(range(4900)), 1)), False)

    def test_kinds(self):
        for tree in TREES:
            for node, kind, _ in tree[0]:
                self.assertEqual(kind_of(tree, node), kind)
        self.assertEqual(kind_of(EMPTY, 0), "drawer")
        self.assertEqual(kind_of(SMALL, 3), "sheet")

    def test_entries(self):
        for tree in TREES:
            for node, kind, entries in tree[0]:
                if kind == "drawer":
                    self.assertEqual(entries_of(tree, node), entries)
                    self.assertTrue(just_tuples(entries_of(tree, node)))
        self.assertEqual(entries_of(EMPTY, 0), ())
        self.assertEqual(entries_of(SMALL, 0), (("a", 1), ("b", 3)))
        self.assertEqual(entries_of(SMALL, 1), ())

    def refused(self, word, call, *things, **named):
        with self.assertRaises(NoStep) as caught:
            call(*things, **named)
        self.assertIs(type(caught.exception), NoStep)
        self.assertIsInstance(caught.exception, RunError)
        self.assertEqual(caught.exception.word, word)

    def test_no_entries_of_a_sheet(self):
        for tree in TREES:
            for node, kind, _ in tree[0]:
                if kind == "sheet":
                    self.refused("sheet", entries_of, tree, node)

    def test_no_node_that_lives(self):
        for tree in TREES:
            living = [row[0] for row in tree[0]]
            for thing in NO_NODES + [node for node in range(tree[1] + 2) if node not in living]:
                self.refused("node", kind_of, tree, thing)
                self.refused("node", entries_of, tree, thing)

    def test_a_truth_is_no_node(self):
        for call in (kind_of, entries_of):
            self.refused("node", call, SMALL, True)
            self.refused("node", call, SMALL, False)
            self.refused("node", call, SHEETS, True)

    def test_by_name(self):
        self.assertIs(is_tree(thing=EMPTY), True)
        self.assertEqual(kind_of(node=3, tree=SMALL), "sheet")
        self.assertEqual(entries_of(node=0, tree=CHAIN), (("a", 4), ("b", 5)))
        self.refused("node", kind_of, tree=SMALL, node=2)

    def test_nothing_is_changed(self):
        for thing in list(NO_TREES.values()) + NO_NODES:
            kept = copy.deepcopy(thing)
            is_tree(thing)
            for call in (kind_of, entries_of):
                try:
                    call(SMALL, thing)
                except NoStep:
                    pass
            self.assertEqual(repr(thing), repr(kept))


if __name__ == "__main__":
    unittest.main()
