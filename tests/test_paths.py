"""[13], [14]: where a WAY LEADS, how it MISSES, the WAYS to a NODE, the drawers above one."""

import unittest

from drawerways.errors import NoStep
from drawerways.paths import above, way_through, ways_to
from drawerways.trees import EMPTY

from model import Model
from things import BESIDE, CHAIN, DEEP, HUGE, NEVER, SHEETS, SMALL, TREES, WINDING, deep, just_tuples, ways


class Through(unittest.TestCase):
    def test_the_void_way(self):
        for tree in TREES:
            self.assertEqual(way_through(tree, ()), ((0,), None))
            for node, _, _ in tree[0]:
                self.assertEqual(way_through(tree, (), top=node), ((node,), None))

    def test_a_way_that_leads(self):
        self.assertEqual(way_through(SMALL, ("a",)), ((0, 1), None))
        self.assertEqual(way_through(SMALL, ("b",)), ((0, 3), None))
        self.assertEqual(way_through(DEEP, ("a", "a", "b")), ((0, 1, 3, 6), None))
        self.assertEqual(way_through(DEEP, ("a", "a", "a")), ((0, 1, 3, 4), None))
        self.assertEqual(way_through(CHAIN, ("a", "a", "a", "a")), ((0, 4, 2, 1, 6), None))

    def test_a_name_that_is_not_there(self):
        self.assertEqual(way_through(EMPTY, ("a",)), ((0,), ("none", 0)))
        self.assertEqual(way_through(EMPTY, ("a", "b")), ((0,), ("none", 0)))
        self.assertEqual(way_through(SMALL, ("a", "b")), ((0, 1), ("none", 1)))
        self.assertEqual(way_through(SMALL, ("a", "b", "c", "d")), ((0, 1), ("none", 1)))
        self.assertEqual(way_through(DEEP, ("a", "a", "d", "a")), ((0, 1, 3), ("none", 2)))

    def test_through_a_sheet(self):
        self.assertEqual(way_through(SMALL, ("b", "a")), ((0, 3), ("sheet", 1)))
        self.assertEqual(way_through(SMALL, ("b", "a", "a")), ((0, 3), ("sheet", 1)))
        self.assertEqual(way_through(DEEP, ("a", "a", "b", "x")), ((0, 1, 3, 6), ("sheet", 3)))

    def test_from_top_on(self):
        self.assertEqual(way_through(SMALL, ("a",), top=0), ((0, 1), None))
        self.assertEqual(way_through(SMALL, ("a",), top=1), ((1,), ("none", 0)))
        self.assertEqual(way_through(SMALL, ("a",), top=3), ((3,), ("sheet", 0)))
        self.assertEqual(way_through(SMALL, ("a", "b"), top=3), ((3,), ("sheet", 0)))
        self.assertEqual(way_through(DEEP, ("a", "b"), top=1), ((1, 3, 6), None))
        self.assertEqual(way_through(DEEP, ("b", "b"), top=3), ((3, 6), ("sheet", 1)))
        self.assertEqual(way_through(CHAIN, ("a", "a"), top=2), ((2, 1, 6), None))

    def test_as_the_document_says(self):
        for tree in TREES:
            for way in ways("abd", 4):
                for node, _, _ in tree[0]:
                    found = way_through(tree, way, top=node)
                    self.assertEqual(found, Model(tree).walk(way, node))
                    self.assertTrue(just_tuples(found))
                self.assertEqual(way_through(tree, way), way_through(tree, way, top=0))

    def test_long_ways(self):
        rows = tuple((node, "drawer", (("a", node + 1),)) for node in range(300)) + ((300, "drawer", ()),)
        tree = (rows, 301)
        self.assertEqual(way_through(tree, ("a",) * 300), (tuple(range(301)), None))
        self.assertEqual(way_through(tree, ("a",) * 400), (tuple(range(301)), ("none", 300)))
        self.assertEqual(ways_to(tree, 300), (("a",) * 300,))
        self.assertEqual(above(tree, 300), tuple(range(299, -1, -1)))

    def test_top_by_its_name_alone(self):
        with self.assertRaises(TypeError):
            way_through(SMALL, ("a",), 0)
        self.assertEqual(way_through(top=1, way=("a",), tree=DEEP), ((1, 3), None))


class WaysTo(unittest.TestCase):
    def test_of_the_top(self):
        for tree in TREES:
            self.assertEqual(ways_to(tree, 0), ((),))

    def test_of_a_drawer(self):
        self.assertEqual(ways_to(SMALL, 1), (("a",),))
        self.assertEqual(ways_to(DEEP, 4), (("a", "a", "a"),))
        self.assertEqual(ways_to(CHAIN, 6), (("a", "a", "a", "a"),))
        self.assertEqual(ways_to(WINDING, 1), (("b", "a"),))
        self.assertEqual(ways_to(WINDING, 6), (("b", "a", "b", "c"),))

    def test_of_a_sheet(self):
        self.assertEqual(ways_to(SMALL, 3), (("b",),))
        self.assertEqual(ways_to(SHEETS, 1), (("a",), ("b",), ("c",)))
        self.assertEqual(ways_to(DEEP, 5), (("a", "a", "c"), ("a", "b"), ("c",)))
        self.assertEqual(ways_to(BESIDE, 3), (("a", "c"), ("b", "a")))
        self.assertEqual(ways_to(CHAIN, 5), (("a", "b"), ("b",)))
        self.assertEqual(ways_to(WINDING, 2), (("b", "a", "b", "a"), ("b", "c")))
        self.assertEqual(ways_to(WINDING, 5), (("b", "a", "c"),))

    def test_rising_and_whole(self):
        tree = (
            ((0, "drawer", (("b", 2), ("c", 1))), (1, "drawer", (("a", 3), ("b", 3))), (2, "drawer", (("z", 3),)),
             (3, "sheet", ())),
            4,
        )
        self.assertEqual(ways_to(tree, 3), (("b", "z"), ("c", "a"), ("c", "b")))

    def test_as_the_document_says(self):
        for tree in TREES:
            for node, _, _ in tree[0]:
                found = ways_to(tree, node)
                self.assertEqual(found, tuple(sorted(Model(tree).ways(node))))
                self.assertTrue(just_tuples(found))
                for way in found:
                    nodes, miss = way_through(tree, way)
                    self.assertEqual((nodes[-1], miss), (node, None))


class Above(unittest.TestCase):
    def test_of_the_top(self):
        for tree in TREES:
            self.assertEqual(above(tree, 0), ())

    def test_the_nearest_first(self):
        self.assertEqual(above(SMALL, 1), (0,))
        self.assertEqual(above(DEEP, 4), (3, 1, 0))
        self.assertEqual(above(CHAIN, 6), (1, 2, 4, 0))
        self.assertEqual(above(CHAIN, 2), (4, 0))
        self.assertEqual(above(BESIDE, 8), (7, 0))

    def test_as_the_document_says(self):
        for tree in TREES:
            for node, kind, _ in tree[0]:
                if kind == "drawer":
                    found = above(tree, node)
                    self.assertEqual(found, Model(tree).above(node))
                    self.assertTrue(just_tuples(found))


class Refused(unittest.TestCase):
    def refused(self, word, call, *things, **named):
        with self.assertRaises(NoStep) as caught:
            call(*things, **named)
        self.assertIs(type(caught.exception), NoStep)
        self.assertEqual(caught.exception.word, word)

    def test_no_node_that_lives(self):
        for tree in TREES:
            living = [row[0] for row in tree[0]]
            dead = [node for node in range(tree[1] + 2) if node not in living]
            for thing in NEVER + dead + [HUGE, "a", ("a",), (1,), [3], deep(40, 3)]:
                self.refused("node", ways_to, tree, thing)
                self.refused("node", above, tree, thing)

    def test_nothing_above_a_sheet(self):
        for tree in TREES:
            for node, kind, _ in tree[0]:
                if kind == "sheet":
                    self.refused("sheet", above, tree, node)

    def test_by_name(self):
        self.assertEqual(ways_to(node=1, tree=SMALL), (("a",),))
        self.assertEqual(above(node=1, tree=SMALL), (0,))
        self.refused("node", above, node=2, tree=SMALL)

    def test_nothing_is_changed(self):
        thing = [0, [1]]
        for call in (ways_to, above):
            self.refused("node", call, SMALL, thing)
        self.assertEqual(thing, [0, [1]])


if __name__ == "__main__":
    unittest.main()
