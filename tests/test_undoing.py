"""[19]: BACKS of DEEDS. Any right one will do, so each is done and looked at."""

import unittest

from drawerways.deeds import done, done_all, is_deed
from drawerways.undoing import back_of

from things import BESIDE, CHAIN, DEEP, EMPTY_TREE, SHEETS, SMALL, TREES, deeds, just_tuples

TWO_SHEETS = (((0, "drawer", (("a", 1), ("b", 2), ("c", 2))), (1, "sheet", ()), (2, "sheet", ())), 3)
TWO_DRAWERS = (
    ((0, "drawer", (("a", 1), ("b", 2), ("d", 4))), (1, "drawer", (("c", 3),)), (2, "drawer", ()), (3, "sheet", ()),
     (4, "sheet", ())),
    5,
)


def living(tree):
    return {row[0] for row in tree[0]}


class Back(unittest.TestCase):
    def check(self, tree, deed):
        """Look at what is told; tell whether there is a BACK."""
        back = back_of(tree, deed)
        newer, _ = done(tree, deed)
        if living(tree) - living(newer):
            self.assertIsNone(back, (tree, deed))
            return False
        self.assertIs(type(back), tuple, (tree, deed))
        self.assertTrue(just_tuples(back))
        for step in back:
            self.assertTrue(is_deed(step), step)
        self.assertEqual(done_all(newer, back)[0][0], tree[0], (tree, deed, back))
        return True

    def test_all(self):
        seen = set()
        for tree in TREES + [TWO_SHEETS, TWO_DRAWERS]:
            for deed in deeds("abc", 3 if tree in (SMALL, DEEP) else 2):
                seen.add((done(tree, deed)[1][0], self.check(tree, deed)))
        for word in ("made", "linked", "swapped"):
            self.assertIn((word, True), seen)
            self.assertNotIn((word, False), seen)
        for word in ("dropped", "moved"):
            self.assertIn((word, True), seen)
            self.assertIn((word, False), seen)

    def test_one_that_turns_nothing(self):
        for tree, deed in (
            (SMALL, ("look", ("a",))), (SMALL, ("list", ())), (SMALL, ("look", ("c", "c"))),
            (SMALL, ("make", ("a",), "drawer")), (DEEP, ("drop", ("a",))), (SMALL, ("link", ("a",), ("c",))),
            (SMALL, ("move", ("a",), ("a", "a"))), (SHEETS, ("swap", ("a",), ("b",))),
        ):
            self.assertEqual(done(tree, deed)[0], tree)
            self.assertTrue(self.check(tree, deed))

    def test_made_is_no_row(self):
        for kind in ("drawer", "sheet"):
            deed = ("make", ("a",), kind)
            self.assertTrue(self.check(EMPTY_TREE, deed))
            newer, _ = done(EMPTY_TREE, deed)
            again, _ = done_all(newer, back_of(EMPTY_TREE, deed))
            self.assertEqual(again, (EMPTY_TREE[0], 2))

    def test_there_is_one(self):
        for tree, deed in (
            (SMALL, ("make", ("a", "c"), "drawer")),
            (SHEETS, ("drop", ("a",))),
            (DEEP, ("drop", ("a", "a", "c"))),
            (SMALL, ("link", ("b",), ("a", "b"))),
            (SMALL, ("move", ("b",), ("a", "b"))),
            (CHAIN, ("move", ("a", "a", "a"), ("c",))),
            (TWO_SHEETS, ("move", ("a",), ("b",))),
            (TWO_SHEETS, ("move", ("a",), ("c",))),
            (TWO_SHEETS, ("move", ("b",), ("c", ))),
            (TWO_DRAWERS, ("move", ("d",), ("a", "d"))),
            (SMALL, ("swap", ("a",), ("b",))),
            (CHAIN, ("swap", ("a", "a"), ("b",))),
        ):
            self.assertTrue(self.check(tree, deed), deed)

    def test_there_is_none(self):
        for tree, deed in (
            (SMALL, ("drop", ("a",))),
            (SMALL, ("drop", ("b",))),
            (DEEP, ("drop", ("b",))),
            (TWO_SHEETS, ("drop", ("a",))),
            (TWO_SHEETS, ("move", ("b",), ("a",))),
            (TWO_DRAWERS, ("move", ("a",), ("b",))),
            (TWO_DRAWERS, ("move", ("d",), ("a", "c"))),
            (BESIDE, ("move", ("a", "a"), ("b", "b"))),
        ):
            self.assertIsNone(back_of(tree, deed), deed)
            self.assertFalse(self.check(tree, deed), deed)

    def test_by_name(self):
        self.assertIsNone(back_of(deed=("drop", ("a",)), tree=SMALL))


if __name__ == "__main__":
    unittest.main()
