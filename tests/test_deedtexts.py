"""[20]: WAYS, DEEDS, TREES written."""

import unittest

from drawerways.deedtexts import shown_deed, shown_tree, shown_way

from things import BESIDE, CHAIN, DEEP, EMPTY_TREE, HUGE, SHEETS, SMALL


class Shown(unittest.TestCase):
    def test_ways(self):
        self.assertEqual(shown_way(()), "/")
        self.assertEqual(shown_way(("a",)), "a")
        self.assertEqual(shown_way(("a", "b")), "a/b")
        self.assertEqual(shown_way(("drawer", "abcdefgh", "a", "a")), "drawer/abcdefgh/a/a")

    def test_deeds(self):
        for deed, text in (
            (("look", ()), "look /"),
            (("look", ("a", "b")), "look a/b"),
            (("list", ()), "list /"),
            (("list", ("a",)), "list a"),
            (("make", ("a", "b"), "sheet"), "make a/b sheet"),
            (("make", ("c",), "drawer"), "make c drawer"),
            (("make", ("sheet",), "drawer"), "make sheet drawer"),
            (("drop", ("a", "b", "c")), "drop a/b/c"),
            (("link", ("a",), ("b",)), "link a b"),
            (("move", ("a",), ("b", "c")), "move a b/c"),
            (("swap", ("a", "b"), ("c",)), "swap a/b c"),
        ):
            self.assertEqual(shown_deed(deed), text)

    def test_trees(self):
        for tree, text in (
            (SMALL, "4 0:a=1,b=3 1: 3"),
            (EMPTY_TREE, "1 0:"),
            (SHEETS, "2 0:a=1,b=1,c=1 1"),
            (DEEP, "9 0:a=1,b=2,c=5 1:a=3,b=5 2: 3:a=4,b=6,c=5 4: 5 6"),
            (BESIDE, "10 0:a=7,b=2 2:a=3,b=4 3 4: 7:a=8,c=3 8:"),
            (CHAIN, "7 0:a=4,b=5 1:a=6 2:a=1 4:a=2,b=5 5 6:"),
            (((EMPTY_TREE[0]), 60), "60 0:"),
        ):
            self.assertEqual(shown_tree(tree), text)

    def test_large_numbers(self):
        tree = (((0, "drawer", (("a", HUGE),)), (HUGE, "sheet", ())), HUGE + 1)
        self.assertEqual(shown_tree(tree), f"{HUGE + 1} 0:a={HUGE} {HUGE}")

    def test_by_name(self):
        self.assertEqual(shown_way(way=("a",)), "a")
        self.assertEqual(shown_deed(deed=("look", ())), "look /")
        self.assertEqual(shown_tree(tree=EMPTY_TREE), "1 0:")


if __name__ == "__main__":
    unittest.main()
