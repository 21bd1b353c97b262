"""[18]: TREES, DEEDS and what is told, with other NAMES and NODES."""

import unittest

from drawerways.deeds import done
from drawerways.renaming import renamed, renamed_deed, renamed_told
from drawerways.trees import is_tree

from things import CHAIN, DEEP, EMPTY_TREE, SHEETS, SMALL, TREES, deeds, just_tuples

# PAIRS by which unlike NAMES stay unlike, where a, b, c are the NAMES handed in.
NAMES = [
    (), (("a", "z"),), (("a", "b"), ("b", "a")), (("a", "b"), ("b", "c"), ("c", "a")), (("a", "drawer"), ("b", "sheet")),
    (("a", "abcdefgh"), ("c", "aa")), (("a", "a"),), (("x", "y"),), (("b", "d"), ("x", "b")),
]


def nodes_of(tree):
    """PAIRS of NODES: none, all but 0 turned about, the first two exchanged, all one on."""
    every = list(range(1, tree[1]))
    found = [(), tuple(zip(every, reversed(every))), tuple(zip(every, every[1:] + every[:1]))]
    if len(every) > 1:
        found.append(((1, 2), (2, 1)))
        found.append(((every[0], every[-1]), (every[-1], every[0])))
    return found


class Renamed(unittest.TestCase):
    def test_names(self):
        self.assertEqual(
            renamed(SMALL, names=(("a", "z"),)),
            (((0, "drawer", (("b", 3), ("z", 1))), (1, "drawer", ()), (3, "sheet", ())), 4),
        )

    def test_names_all_at_once(self):
        self.assertEqual(
            renamed(SMALL, names=(("a", "b"), ("b", "a"))),
            (((0, "drawer", (("a", 3), ("b", 1))), (1, "drawer", ()), (3, "sheet", ())), 4),
        )

    def test_nodes_all_at_once(self):
        self.assertEqual(
            renamed(SMALL, nodes=((1, 3), (3, 1))),
            (((0, "drawer", (("a", 3), ("b", 1))), (1, "sheet", ()), (3, "drawer", ())), 4),
        )

    def test_nodes_that_live_no_more(self):
        self.assertEqual(
            renamed(SMALL, nodes=((1, 2), (2, 1))),
            (((0, "drawer", (("a", 2), ("b", 3))), (2, "drawer", ()), (3, "sheet", ())), 4),
        )

    def test_both(self):
        self.assertEqual(
            renamed(CHAIN, names=(("a", "x"), ("b", "a")), nodes=((1, 4), (2, 6), (4, 1), (6, 2))),
            (
                ((0, "drawer", (("a", 5), ("x", 1))), (1, "drawer", (("a", 5), ("x", 6))), (2, "drawer", ()),
                 (4, "drawer", (("x", 2),)), (5, "sheet", ()), (6, "drawer", (("x", 4),))),
                7,
            ),
        )

    def test_kinds_are_no_names(self):
        names = (("drawer", "a"), ("sheet", "b"))
        self.assertEqual(renamed(SMALL, names=names), SMALL)
        tree = (((0, "drawer", (("drawer", 1), ("sheet", 2))), (1, "sheet", ()), (2, "drawer", ())), 3)
        self.assertEqual(
            renamed(tree, names=names),
            (((0, "drawer", (("a", 1), ("b", 2))), (1, "sheet", ()), (2, "drawer", ())), 3),
        )

    def test_pairs_left_out_or_void(self):
        for tree in TREES:
            self.assertEqual(renamed(tree), tree)
            self.assertEqual(renamed(tree, names=(), nodes=()), tree)

    def test_a_tree_comes_of_it(self):
        for tree in TREES:
            for names in NAMES[:4]:
                for nodes in nodes_of(tree):
                    found = renamed(tree, names=names, nodes=nodes)
                    self.assertTrue(is_tree(found))
                    self.assertTrue(just_tuples(found))
                    self.assertEqual(found[1], tree[1])
                    back = renamed(
                        found,
                        names=tuple(sorted((newer, elder) for elder, newer in names)),
                        nodes=tuple(sorted((newer, elder) for elder, newer in nodes)),
                    )
                    self.assertEqual(back, tree)

    def test_by_their_names_alone(self):
        with self.assertRaises(TypeError):
            renamed(SMALL, ())
        with self.assertRaises(TypeError):
            renamed_deed(("look", ()), ())
        with self.assertRaises(TypeError):
            renamed_told(("there",), ())
        self.assertEqual(renamed(nodes=(), tree=EMPTY_TREE, names=(("a", "b"),)), EMPTY_TREE)


class RenamedDeed(unittest.TestCase):
    def test_deeds(self):
        names = (("a", "b"), ("b", "a"), ("c", "x"))
        for deed, newer in (
            (("look", ()), ("look", ())),
            (("look", ("a", "b", "c", "d")), ("look", ("b", "a", "x", "d"))),
            (("list", ("a",)), ("list", ("b",))),
            (("make", ("c", "a"), "drawer"), ("make", ("x", "b"), "drawer")),
            (("drop", ("a", "a")), ("drop", ("b", "b"))),
            (("link", ("a",), ("b", "c")), ("link", ("b",), ("a", "x"))),
            (("move", ("a",), ("b",)), ("move", ("b",), ("a",))),
            (("swap", ("d",), ("c",)), ("swap", ("d",), ("x",))),
        ):
            self.assertEqual(renamed_deed(deed, names=names), newer)
            self.assertEqual(renamed_deed(deed), deed)
            self.assertEqual(renamed_deed(deed, names=()), deed)

    def test_kinds_and_words_are_no_names(self):
        names = (("drawer", "a"), ("make", "c"), ("sheet", "b"))
        self.assertEqual(renamed_deed(("make", ("sheet",), "sheet"), names=names), ("make", ("b",), "sheet"))
        self.assertEqual(renamed_deed(("make", ("drawer",), "drawer"), names=names), ("make", ("a",), "drawer"))
        self.assertEqual(renamed_deed(("make", ("make",), "drawer"), names=names), ("make", ("c",), "drawer"))

    def test_by_name(self):
        self.assertEqual(renamed_deed(names=(("a", "b"),), deed=("look", ("a",))), ("look", ("b",)))


class RenamedTold(unittest.TestCase):
    NAMES = (("a", "c"), ("c", "a"), ("drawer", "x"), ("none", "y"), ("sheet", "z"))
    NODES = ((1, 2), (2, 3), (3, 1))

    def test_told(self):
        for told, newer in (
            (("found", "drawer", 1), ("found", "drawer", 2)),
            (("found", "sheet", 3), ("found", "sheet", 1)),
            (("found", "drawer", 0), ("found", "drawer", 0)),
            (("names", ()), ("names", ())),
            (("names", ("a", "b", "c")), ("names", ("a", "b", "c"))),
            (("names", ("a", "b")), ("names", ("b", "c"))),
            (("names", ("drawer", "sheet")), ("names", ("x", "z"))),
            (("none", 1), ("none", 1)),
            (("none", 2, 1), ("none", 2, 1)),
            (("sheet", 1), ("sheet", 1)),
            (("sheet", 3, 1), ("sheet", 3, 1)),
            (("there",), ("there",)),
            (("made", 1), ("made", 1)),
            (("made", 9), ("made", 9)),
            (("full",), ("full",)),
            (("dropped", 1), ("dropped", 2)),
            (("kind",), ("kind",)),
            (("linked", 2), ("linked", 3)),
            (("same",), ("same",)),
            (("inside",), ("inside",)),
            (("moved", 3), ("moved", 1)),
            (("moved", 7), ("moved", 7)),
            (("swapped", 1, 3), ("swapped", 2, 1)),
        ):
            found = renamed_told(told, names=self.NAMES, nodes=self.NODES)
            self.assertEqual(found, newer)
            self.assertTrue(just_tuples(found))
            self.assertEqual(renamed_told(told), told)
            self.assertEqual(renamed_told(told, names=(), nodes=()), told)

    def test_one_of_both(self):
        self.assertEqual(renamed_told(("moved", 1), names=self.NAMES), ("moved", 1))
        self.assertEqual(renamed_told(("names", ("a",)), nodes=self.NODES), ("names", ("a",)))
        self.assertEqual(renamed_told(nodes=self.NODES, told=("moved", 1)), ("moved", 2))


class DoneRenamed(unittest.TestCase):
    def test_done_renamed_is_renamed_done(self):
        for tree in (EMPTY_TREE, SMALL, SHEETS, CHAIN, DEEP):
            for deed in deeds("abc", 2)[::3 if tree in (CHAIN, DEEP) else 1]:
                newer, told = done(tree, deed)
                for names in NAMES:
                    for nodes in nodes_of(tree):
                        found = done(renamed(tree, names=names, nodes=nodes), renamed_deed(deed, names=names))
                        self.assertEqual(found[0], renamed(newer, names=names, nodes=nodes))
                        self.assertEqual(found[1], renamed_told(told, names=names, nodes=nodes))


if __name__ == "__main__":
    unittest.main()
