"""[24]: TASKS done ONE AT A TIME."""

import copy
import unittest

from drawerways.deeds import done
from drawerways.tasks import in_order, trees_along
from drawerways.trees import EMPTY, is_tree

from things import DEEP, HUGE, SMALL, TREES, just_tuples

HANDS = (
    (("make", ("c",), "drawer"), ("look", ("c",)), ("drop", ("c",))),
    (),
    (("move", ("b",), ("c",)), ("list", ())),
    (("make", ("c",), "sheet"),),
)

LINES = [
    (),
    ((0, 0),),
    ((2, 0), (2, 1)),
    ((0, 0), (0, 1), (0, 2)),
    ((3, 0), (0, 0), (2, 0), (0, 1)),
    ((0, 0), (2, 0), (0, 1), (0, 2), (3, 0), (2, 1)),
    ((3, 0), (2, 0), (2, 1), (0, 0), (0, 1), (0, 2)),
]


class InOrder(unittest.TestCase):
    def test_the_void_line(self):
        for tree in TREES:
            self.assertEqual(in_order(tree, HANDS, ()), ((), tree))
            self.assertEqual(in_order(tree, (), ()), ((), tree))

    def test_several_hands(self):
        results, end = in_order(EMPTY, HANDS, ((3, 0), (0, 0), (2, 0), (2, 1), (0, 1), (0, 2)))
        self.assertEqual(results, (
            ((0, 0), ("there",)), ((0, 1), ("found", "sheet", 1)), ((0, 2), ("dropped", 1)),
            ((2, 0), ("none", 0, 0)), ((2, 1), ("names", ("c",))), ((3, 0), ("made", 1)),
        ))
        self.assertEqual(end, (((0, "drawer", ()),), 2))

    def test_the_order_makes_the_difference(self):
        self.assertEqual(
            in_order(SMALL, HANDS, ((2, 0), (0, 0))),
            (
                (((0, 0), ("there",)), ((2, 0), ("moved", 3))),
                (((0, "drawer", (("a", 1), ("c", 3))), (1, "drawer", ()), (3, "sheet", ())), 4),
            ),
        )
        self.assertEqual(
            in_order(SMALL, HANDS, ((0, 0), (2, 0))),
            (
                (((0, 0), ("made", 4)), ((2, 0), ("kind",))),
                (
                    ((0, "drawer", (("a", 1), ("b", 3), ("c", 4))), (1, "drawer", ()), (3, "sheet", ()),
                     (4, "drawer", ())),
                    5,
                ),
            ),
        )

    def test_results_rise(self):
        for tree in TREES:
            for line in LINES:
                results, end = in_order(tree, HANDS, line)
                self.assertEqual([task for task, _ in results], sorted(line))
                self.assertTrue(just_tuples((results, end)))
                self.assertTrue(is_tree(end))
                at, told = tree, {}
                for hand, k in line:
                    at, told[(hand, k)] = done(at, HANDS[hand][k])
                self.assertEqual((dict(results), end), (told, at))

    def test_by_name(self):
        self.assertEqual(in_order(line=(), hands=HANDS, tree=SMALL), ((), SMALL))


class TreesAlong(unittest.TestCase):
    def test_all(self):
        for tree in TREES:
            for line in LINES:
                trees = [tree]
                for many in range(1, len(line) + 1):
                    trees.append(in_order(tree, HANDS, line[:many])[1])
                self.assertEqual(trees_along(tree, HANDS, line), tuple(trees))
                for first in range(len(trees) + 3):
                    found = trees_along(tree, HANDS, line, first=first)
                    self.assertEqual(found, tuple(trees[first:]))
                    self.assertIs(type(found), tuple)

    def test_first(self):
        line = ((0, 0), (0, 1), (0, 2))
        with_c = (((0, "drawer", (("c", 1),)), (1, "drawer", ())), 2)
        behind = (EMPTY[0], 2)
        self.assertEqual(trees_along(EMPTY, HANDS, line), (EMPTY, with_c, with_c, behind))
        self.assertEqual(trees_along(EMPTY, HANDS, line, first=0), (EMPTY, with_c, with_c, behind))
        self.assertEqual(trees_along(EMPTY, HANDS, line, first=2), (with_c, behind))
        self.assertEqual(trees_along(EMPTY, HANDS, line, first=3), (behind,))
        self.assertEqual(trees_along(EMPTY, HANDS, line, first=4), ())
        self.assertEqual(trees_along(EMPTY, HANDS, line, first=HUGE), ())

    def test_the_void_line(self):
        self.assertEqual(trees_along(DEEP, HANDS, ()), (DEEP,))
        self.assertEqual(trees_along(DEEP, HANDS, (), first=0), (DEEP,))
        self.assertEqual(trees_along(DEEP, HANDS, (), first=1), ())

    def test_by_name(self):
        with self.assertRaises(TypeError):
            trees_along(SMALL, HANDS, (), 0)
        self.assertEqual(trees_along(first=0, line=(), hands=HANDS, tree=SMALL), (SMALL,))

    def test_nothing_is_changed(self):
        kept = copy.deepcopy((TREES, HANDS, LINES))
        for tree in TREES:
            for line in LINES:
                in_order(tree, HANDS, line)
                trees_along(tree, HANDS, line, first=1)
        self.assertEqual((TREES, HANDS, LINES), kept)


if __name__ == "__main__":
    unittest.main()
