"""[49], [50]: STATES: the one at the beginning, whether one is QUIET, its TREE."""

import copy
import unittest

from drawerways.errors import NoStep, RunError
from drawerways.states import begun, is_quiet, tree_of
from drawerways.trees import is_tree

from things import BESIDE, SMALL, TREES, just_tuples

HANDS = (
    (("move", ("b",), ("a", "c")), ("look", ("b",))),
    (),
    (("list", ()),),
)

NEW = (0, "new", None, (), 0, None)
NONE = (0, "through", None, (), 0, None)

# A "move" of the sheet of SMALL into its drawer, step by step ([57]); the other hands are new or through.
JOURNAL = ("move", 0, "b", 1, "c", 3, None)
HELD = ((0, 0), (1, 0))
BEFORE = SMALL[0]
BETWEEN = ((0, "drawer", (("a", 1),)), (1, "drawer", ()), (3, "sheet", ()))
BEHIND = ((0, "drawer", (("a", 1),)), (1, "drawer", (("c", 3),)), (3, "sheet", ()))


def moving(phase, nodes, journal, turn, due, locks=HELD):
    """The STATE with the first hand at its "move"."""
    row = (0, phase, 0, (0, 1), 1, due)
    return HANDS, (nodes, 4, journal), locks, 0, turn, (row, NONE, NEW)


# Each with whether its TURN is odd.
MIDST = [
    (moving("locks", BEFORE, None, 0, None, ()), False),
    (moving("locks", BEFORE, None, 0, None, HELD[:1]), False),
    (moving("looks", BEFORE, None, 0, None), False),
    (moving("writes", BEFORE, None, 0, JOURNAL), False),
    (moving("turns", BEFORE, JOURNAL, 0, JOURNAL), False),
    (moving("outs", BEFORE, JOURNAL, 1, JOURNAL), True),
    (moving("ins", BETWEEN, JOURNAL, 1, JOURNAL), True),
    (moving("ends", BEHIND, JOURNAL, 1, JOURNAL), True),
]

MOVED = (HANDS, (BEHIND, 4, None), (), None, 2, ((1, "new", None, (), 0, None), NONE, NEW))
ALL_THROUGH = (
    HANDS, (BEHIND, 4, None), (), None, 2, ((2, "through", None, (), 0, None), NONE, (1, "through", None, (), 0, None)),
)


class Begun(unittest.TestCase):
    def test_some_hands(self):
        found = begun(SMALL, HANDS)
        self.assertEqual(found, (HANDS, (SMALL[0], 4, None), (), None, 0, (NEW, NONE, NEW)))
        self.assertTrue(just_tuples(found) and len(found) == 6)

    def test_no_hands(self):
        for tree in TREES:
            found = begun(tree, ())
            self.assertEqual(found, ((), (tree[0], tree[1], None), (), None, 0, ()))
            self.assertTrue(just_tuples(found))

    def test_hands_without_deeds(self):
        for many in range(5):
            hands = ((),) * many
            found = begun(BESIDE, hands)
            self.assertEqual(found, (hands, (BESIDE[0], BESIDE[1], None), (), None, 0, (NONE,) * many))

    def test_kinds(self):
        # The TURN and what was read are NUMBERS, no truths.
        _, _, _, _, turn, rows = begun(SMALL, HANDS)
        self.assertIs(type(turn), int)
        for row in rows:
            self.assertEqual([type(thing) for thing in row], [int, str, type(None), tuple, int, type(None)])

    def test_by_name_and_nothing_is_changed(self):
        kept = copy.deepcopy((TREES, HANDS))
        for tree in TREES:
            self.assertEqual(begun(hands=HANDS, tree=tree), begun(tree, HANDS))
        self.assertEqual(repr((TREES, HANDS)), repr(kept))


class IsQuiet(unittest.TestCase):
    def test_at_the_beginning(self):
        for tree in TREES:
            self.assertIs(is_quiet(begun(tree, HANDS)), False)
            self.assertIs(is_quiet(begun(tree, ())), True)
            self.assertIs(is_quiet(begun(tree, ((), (), ()))), True)
            self.assertIs(is_quiet(begun(tree, ((), (("list", ()),), ()))), False)

    def test_in_the_midst(self):
        for state, _ in MIDST:
            self.assertIs(is_quiet(state), False)
        self.assertIs(is_quiet(MOVED), False)
        self.assertIs(is_quiet(ALL_THROUGH), True)
        self.assertIs(is_quiet(state=ALL_THROUGH), True)

    def test_each_phase(self):
        for phase in ("new", "last", "walks", "locks", "commits", "lower", "empties", "looks", "third", "checks",
                      "writes", "turns", "outs", "ins", "ends"):
            row = (0, phase, 0, (0,), 0, None)
            for rows in ((row,), (row, NONE), (NONE, row), (NONE, row, NONE)):
                self.assertIs(is_quiet((((("list", ()),),) * len(rows), (BEFORE, 4, None), (), None, 0, rows)), False)


class TreeOf(unittest.TestCase):
    def refused(self, state):
        with self.assertRaises(NoStep) as caught:
            tree_of(state)
        self.assertIs(type(caught.exception), NoStep)
        self.assertIsInstance(caught.exception, RunError)
        self.assertEqual(caught.exception.word, "turn")

    def test_at_the_beginning(self):
        for tree in TREES:
            for hands in ((), ((),), HANDS):
                found = tree_of(begun(tree, hands))
                self.assertEqual(found, tree)
                self.assertTrue(just_tuples(found))

    def test_in_the_midst_of_a_move(self):
        for state, odd in MIDST:
            if odd:
                self.refused(state)
            else:
                # The JOURNAL that stands alone has turned nothing.
                self.assertEqual(tree_of(state), SMALL)
                self.assertIs(is_tree(tree_of(state)), True)

    def test_behind_a_move(self):
        self.assertEqual(tree_of(MOVED), (BEHIND, 4))
        self.assertEqual(tree_of(state=ALL_THROUGH), (BEHIND, 4))

    def test_later_turns(self):
        for turn in range(12):
            state = (HANDS, (BEFORE, 4, JOURNAL), HELD, 0, turn, MIDST[5][0][5])
            if turn % 2 == 1:
                self.refused(state)
            else:
                self.assertEqual(tree_of(state), SMALL)

    def test_nothing_is_changed(self):
        kept = copy.deepcopy(MIDST)
        for state, _ in MIDST:
            is_quiet(state)
            try:
                tree_of(state)
            except NoStep:
                pass
        self.assertEqual(repr(MIDST), repr(kept))


if __name__ == "__main__":
    unittest.main()
