"""[45], [46], [47]: WALKS in a HISTORY, whether it is STILL, MOMENTS that HAD what a WALK tells."""

import copy
import unittest
from itertools import product

from drawerways.histories import had_by, is_still, walk_in
from drawerways.trees import EMPTY, is_tree

from pasts import (
    ALIKE, CARRIED, DROPPED, HISTORIES, ONE, SHEETS_ALONE, TURNED, all_moments, had, history_of, looks, still, walk,
)
from things import BESIDE, CHAIN, DEEP, SMALL, TREES, just_tuples, ways

# A drawer with a sheet in it; the sheet is dropped, then the drawer, then both are made anew.
ANEW = history_of(
    (((0, "drawer", (("a", 1),)), (1, "drawer", (("b", 2),)), (2, "sheet", ())), 3),
    [("drop", ("a", "b"))], [("drop", ("a",))], [("make", ("a",), "drawer")], [("make", ("a", "b"), "sheet")],
)

# A sheet stands where a drawer stood, and the other way about.
OTHER_KIND = history_of(
    EMPTY, [("make", ("a",), "drawer")], [("drop", ("a",)), ("make", ("a",), "sheet")],
    [("drop", ("a",)), ("make", ("a",), "drawer"), ("make", ("a", "b"), "drawer")],
)


class WalkIn(unittest.TestCase):
    def walks(self, history, way, moments, told, end):
        found = walk_in(history, way, moments=moments)
        self.assertEqual(found, (told, end), (way, moments))
        self.assertTrue(just_tuples(found) and len(found) == 2)

    def test_histories(self):
        for history in HISTORIES + [ANEW, OTHER_KIND]:
            self.assertTrue(all(is_tree(tree) for tree in history))
            for one, other in zip(history, history[1:]):
                self.assertLessEqual(one[1], other[1])
                new = {row[0] for row in other[0]} - {row[0] for row in one[0]}
                self.assertTrue(all(node >= one[1] for node in new))

    def test_of_one_tree(self):
        for tree in TREES:
            for way in ways(("a", "b", "x"), 3)[1:]:
                moments = (0,) * len(way)
                self.walks((tree,), way, moments, looks((tree,), way)[0], 0)

    def test_moments_all_alike(self):
        for history in HISTORIES + [ANEW, OTHER_KIND]:
            for way in ways(("a", "b", "c"), 3)[1:]:
                for at in range(len(history)):
                    self.walks(history, way, (at,) * len(way), looks(history, way)[at], at)

    def test_found(self):
        self.walks(ALIKE, ("a",), (2,), ("found", "drawer", 1), 2)
        self.walks(ALIKE, ("b",), (1,), ("found", "sheet", 3), 1)
        self.walks(ANEW, ("a", "b"), (0, 0), ("found", "sheet", 2), 0)
        self.walks(ANEW, ("a", "b"), (3, 4), ("found", "sheet", 4), 4)
        self.walks(CARRIED, ("b", "a"), (0, 2), ("found", "sheet", 3), 2)
        self.walks(CARRIED, ("a", "b", "a"), (1, 2, 4), ("found", "sheet", 3), 4)
        self.walks(DROPPED, ("a", "a", "a"), (0, 0, 1), ("found", "drawer", 1), 1)

    def test_none(self):
        self.walks(ONE, ("x",), (0,), ("none", 0), 0)
        self.walks(ALIKE, ("x", "a", "a"), (1, 2, 2), ("none", 0), 1)
        self.walks(ALIKE, ("a", "x", "a"), (0, 1, 2), ("none", 1), 1)
        self.walks(ALIKE, ("a", "x"), (0, 2), ("none", 1), 2)
        self.walks(ANEW, ("a", "b"), (0, 1), ("none", 1), 1)

    def test_through_a_drawer_that_lives_no_more(self):
        self.walks(ANEW, ("a", "b"), (0, 2), ("none", 1), 2)
        self.walks(ANEW, ("a", "b"), (0, 3), ("none", 1), 3)
        # The NAMES are there again, but not in the drawer at hand.
        self.walks(ANEW, ("a", "b"), (0, 4), ("none", 1), 4)
        self.walks(ANEW, ("a", "b"), (1, 4), ("none", 1), 4)
        self.walks(ANEW, ("a", "b", "c"), (1, 2, 4), ("none", 1), 2)
        self.walks(OTHER_KIND, ("a", "b"), (1, 2), ("none", 1), 2)
        self.walks(OTHER_KIND, ("a", "b"), (1, 3), ("none", 1), 3)

    def test_a_sheet_ahead_of_the_last_name(self):
        self.walks(ALIKE, ("b", "a"), (0, 0), ("sheet", 1), 0)
        self.walks(ALIKE, ("b", "a"), (0, 2), ("sheet", 1), 0)
        self.walks(ALIKE, ("b", "a", "a"), (1, 2, 2), ("sheet", 1), 1)
        self.walks(ANEW, ("a", "b", "c"), (0, 0, 0), ("sheet", 2), 0)
        # Whether that sheet still lives or not.
        self.walks(ANEW, ("a", "b", "c"), (0, 0, 1), ("sheet", 2), 0)
        self.walks(ANEW, ("a", "b", "c", "d"), (0, 0, 4, 4), ("sheet", 2), 0)
        self.walks(OTHER_KIND, ("a", "b"), (2, 3), ("sheet", 1), 2)
        self.walks(OTHER_KIND, ("a", "b"), (3, 3), ("found", "drawer", 4), 3)
        self.walks(SHEETS_ALONE, ("b", "a"), (2, 4), ("sheet", 1), 2)

    def test_a_sheet_as_the_last(self):
        self.walks(ALIKE, ("b",), (2,), ("found", "sheet", 3), 2)
        self.walks(TURNED, ("a",), (1,), ("found", "sheet", 3), 1)

    def test_a_way_that_never_was(self):
        tree = (((0, "drawer", (("a", 1), ("b", 2))), (1, "drawer", ()), (2, "drawer", (("c", 3),)), (3, "sheet", ())), 4)
        history = history_of(tree, [("move", ("b",), ("a", "b"))], [("move", ("a", "b"), ("b",)), ("drop", ("a",))])
        self.walks(history, ("b", "c"), (0, 1), ("found", "sheet", 3), 1)
        self.walks(history, ("a", "b", "c"), (0, 1, 2), ("found", "sheet", 3), 2)
        self.assertEqual(had_by(history, ("a", "b", "c"), moments=(0, 1, 2)), (1,))
        # What is carried has another sheet in it then, so no MOMENT had what is found.
        history = history_of(tree, [
            ("move", ("b",), ("a", "b")), ("drop", ("a", "b", "c")), ("make", ("a", "b", "c"), "sheet"),
        ])
        self.walks(history, ("b", "c"), (0, 1), ("found", "sheet", 4), 1)
        self.assertEqual(had_by(history, ("b", "c"), moments=(0, 1)), ())

    def test_all(self):
        words = set()
        for history in HISTORIES + [ANEW, OTHER_KIND]:
            for way in ways(("a", "b", "c"), 3)[1:]:
                for moments in all_moments(history, len(way)):
                    told, end = walk(history, way, moments)
                    words.add(told[0])
                    self.walks(history, way, moments, told, end)
        self.assertEqual(words, {"found", "none", "sheet"})

    def test_long_ways(self):
        for history in (CARRIED, DROPPED):
            for way in product(("a", "b"), repeat=4):
                for moments in all_moments(history, 4):
                    self.walks(history, way, moments, *walk(history, way, moments))

    def test_by_name(self):
        self.assertEqual(walk_in(moments=(0,), way=("a",), history=ONE), (("found", "drawer", 1), 0))
        with self.assertRaises(TypeError):
            walk_in(ONE, ("a",), (0,))
        with self.assertRaises(TypeError):
            walk_in(ONE, ("a",))


class IsStill(unittest.TestCase):
    def still(self, due, *trees):
        self.assertIs(is_still(trees), due)

    def test_of_one_tree(self):
        for tree in TREES:
            self.still(True, tree)
            self.still(True, tree, tree)
            self.still(True, tree, tree, tree)

    def test_drawers_that_move(self):
        for tree, deed in (
            (BESIDE, ("move", ("b",), ("a", "b"))), (BESIDE, ("move", ("b",), ("c",))),
            (BESIDE, ("move", ("a", "a"), ("b", "c"))), (BESIDE, ("move", ("a", "a"), ("b", "b"))),
            (BESIDE, ("swap", ("a",), ("b",))), (BESIDE, ("swap", ("a", "a"), ("a", "c"))), (SMALL, ("move", ("a",), ("b",))),
            (CHAIN, ("move", ("a", "a", "a"), ("c",))), (DEEP, ("swap", ("a", "a", "a"), ("c",))),
        ):
            history = history_of(tree, [deed]) if deed != ("move", ("a",), ("b",)) else history_of(
                tree, [("drop", ("b",)), deed])
            self.still(False, *history)
            self.still(False, *reversed(history))

    def test_the_same_name_in_another_drawer(self):
        one = (((0, "drawer", (("a", 1), ("b", 2))), (1, "drawer", (("c", 3),)), (2, "drawer", ()), (3, "drawer", ())), 4)
        other = (((0, "drawer", (("a", 1), ("b", 2))), (1, "drawer", ()), (2, "drawer", (("c", 3),)), (3, "drawer", ())), 4)
        renamed = (((0, "drawer", (("a", 1), ("b", 2))), (1, "drawer", (("d", 3),)), (2, "drawer", ()), (3, "drawer", ())), 4)
        self.still(False, one, other)
        self.still(False, one, renamed)
        self.still(False, one, one, one, renamed)
        self.still(False, one, other, other)

    def test_there_and_back_within_one_moment(self):
        back = history_of(BESIDE, [("move", ("b",), ("a", "b")), ("move", ("a", "b"), ("b",))])
        self.still(True, *back)

    def test_dropped(self):
        # Without ENTRIES at the MOMENT ahead, and with some.
        tree = (((0, "drawer", (("a", 1),)), (1, "drawer", (("b", 2),)), (2, "sheet", ())), 3)
        self.still(True, *history_of(tree, [("drop", ("a", "b"))], [("drop", ("a",))]))
        self.still(False, *history_of(tree, [("drop", ("a", "b")), ("drop", ("a",))]))
        self.still(True, *history_of(SMALL, [("drop", ("a",))]))
        self.still(True, *history_of(SMALL, [("drop", ("a",)), ("make", ("a",), "drawer")]))
        # A "move" onto an empty drawer: this one is dropped, but the other one has moved.
        self.still(False, *history_of(BESIDE, [("move", ("b", "b"), ("a", "a"))]))

    def test_made_and_sheets(self):
        self.still(True, *history_of(SMALL, [("make", ("c",), "drawer")], [("make", ("c", "a"), "drawer")]))
        self.still(True, *history_of(SMALL, [("move", ("b",), ("a", "b"))], [("link", ("a", "b"), ("c",))]))
        self.still(True, *history_of(BESIDE, [("drop", ("b", "a"))], [("move", ("a", "c"), ("b", "a"))]))
        self.still(True, *SHEETS_ALONE)

    def test_first_and_last(self):
        # Steps: the drawer is carried, a sheet made, dropped, the drawer carried back.
        for first, last, due in (
            (0, 0, True), (0, 1, False), (0, 4, False), (1, 1, True), (1, 2, True), (1, 3, True), (1, 4, False),
            (2, 3, True), (3, 3, True), (3, 4, False), (4, 4, True),
        ):
            self.assertIs(is_still(CARRIED, first=first, last=last), due, (first, last))
        self.assertIs(is_still(CARRIED), False)
        self.assertIs(is_still(CARRIED, last=0), True)
        self.assertIs(is_still(CARRIED, last=3), False)
        self.assertIs(is_still(CARRIED, first=1), False)
        self.assertIs(is_still(CARRIED, first=4), True)
        self.assertIs(is_still(CARRIED, first=1, last=None), False)
        self.assertIs(is_still(CARRIED[:4], first=1), True)
        self.assertIs(is_still(CARRIED[:4], first=1, last=None), True)

    def test_all(self):
        seen = set()
        for history in HISTORIES + [ANEW, OTHER_KIND]:
            for last in range(len(history)):
                for first in range(last + 1):
                    due = still(history, first, last)
                    seen.add(due)
                    self.assertIs(is_still(history, first=first, last=last), due)
                    self.assertIs(is_still(history[:last + 1], first=first), due)
                    self.assertIs(is_still(history[first:last + 1]), due)
        self.assertEqual(seen, {True, False})

    def test_by_name(self):
        self.assertIs(is_still(last=2, first=0, history=ALIKE), True)
        with self.assertRaises(TypeError):
            is_still(ALIKE, 0)


class HadBy(unittest.TestCase):
    def test_some(self):
        for history, way, moments, due in (
            (ONE, ("a",), (0,), (0,)), (ALIKE, ("a",), (1,), (1,)), (ALIKE, ("a", "x"), (0, 2), (0, 1, 2)),
            (ALIKE, ("b", "x"), (0, 2), (0,)), (ALIKE, ("x", "x"), (1, 2), (1,)), (ANEW, ("a", "b"), (0, 2), (1,)),
            (ANEW, ("a", "b"), (0, 4), (1, 3)), (ANEW, ("a", "b"), (0, 0), (0,)), (ANEW, ("a", "b"), (3, 4), (4,)),
            (CARRIED, ("b", "a"), (0, 4), (0, 4)), (CARRIED, ("b", "a"), (0, 3), (0,)),
            (CARRIED, ("a", "b", "a"), (1, 4, 4), (4,)), (CARRIED, ("a", "b", "a"), (1, 3, 4), (1, 2, 3)),
        ):
            found = had_by(history, way, moments=moments)
            self.assertEqual(found, due, (way, moments))
            self.assertTrue(just_tuples(found))

    def test_all(self):
        none = 0
        for history in HISTORIES + [ANEW, OTHER_KIND]:
            for way in ways(("a", "b", "c"), 3)[1:]:
                for moments in all_moments(history, len(way)):
                    due = had(history, way, moments)
                    found = had_by(history, way, moments=moments)
                    self.assertEqual(found, due)
                    none += found == ()
                    # M5: a look that nobody carried anything under tells what some moment had.
                    end = walk(history, way, moments)[1]
                    if is_still(history, first=moments[0], last=end):
                        self.assertTrue(found, (history, way, moments))
        self.assertTrue(none > 0)

    def test_by_name(self):
        self.assertEqual(had_by(moments=(0,), way=("a",), history=ONE), (0,))
        with self.assertRaises(TypeError):
            had_by(ONE, ("a",), (0,))

    def test_nothing_is_changed(self):
        kept = copy.deepcopy(HISTORIES)
        for history in HISTORIES:
            walk_in(history, ("a", "b"), moments=(0, 0))
            is_still(history)
            had_by(history, ("a", "b"), moments=(0, len(history) - 1))
        self.assertEqual(repr(HISTORIES), repr(kept))


if __name__ == "__main__":
    unittest.main()
