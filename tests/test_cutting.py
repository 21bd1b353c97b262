"""[59]: a CUT of a STATE, at each STEP."""

import copy
import unittest

from drawerways.cutting import cut
from drawerways.states import begun, is_quiet, tree_of
from drawerways.steps import step
from drawerways.trees import is_tree

from draws import drawn
from model import modelled
from scripts import stepped, stepped_to
from things import BESIDE, DEEP, SHEETS, SMALL, TREES, WINDING, just_tuples

DEEDS = [
    (SMALL, ("move", ("b",), ("a", "c"))), (SMALL, ("move", ("a",), ("c",))), (SMALL, ("swap", ("a",), ("b",))),
    (BESIDE, ("swap", ("b", "b"), ("a", "c"))), (BESIDE, ("move", ("b", "b"), ("a", "a"))),
    (WINDING, ("move", ("b", "c"), ("b", "a", "c"))), (DEEP, ("move", ("c",), ("b", "c"))),
    (DEEP, ("move", ("b",), ("a", "a", "a"))), (DEEP, ("swap", ("b",), ("a", "a", "a"))),
    (DEEP, ("move", ("a", "a", "b"), ("c",))),
]


class Cut(unittest.TestCase):
    def test_at_the_beginning(self):
        for tree in TREES:
            for hands in ((), ((),), ((("drop", ("a",)),),)):
                found = cut(begun(tree, hands))
                self.assertEqual(found, tree)
                self.assertTrue(just_tuples(found))

    def test_each_step_of_a_move_and_of_a_swap(self):
        for tree, deed in DEEDS:
            whole, told = modelled(tree, deed)
            self.assertIn(told[0], ("moved", "swapped"))
            state, phases = begun(tree, ((deed,),)), []
            while not is_quiet(state):
                phases.append(state[5][0][1])
                late = phases[-1] in ("turns", "outs", "ins", "ends")
                self.assertEqual(state[1][2] is not None, late)
                found = cut(state)
                self.assertEqual(found, whole if late else tree, phases)
                self.assertTrue(is_tree(found) and just_tuples(found))
                state, _ = step(state, 0)
            self.assertEqual(phases[-5:], ["writes", "turns", "outs", "ins", "ends"])
            self.assertEqual(cut(state), whole)

    def test_what_is_refused_leaves_no_trace(self):
        for tree, deed in ((SMALL, ("move", ("a",), ("b",))), (BESIDE, ("move", ("a",), ("b",))), (
                SHEETS, ("swap", ("a",), ("b",)))):
            state = begun(tree, ((deed,),))
            while not is_quiet(state):
                self.assertEqual(cut(state), tree)
                state, _ = step(state, 0)
            self.assertEqual(cut(state), tree)

    def test_others_between(self):
        # What another hand made is there, whether the move is done by then or not.
        hands = ((("move", ("b", "a"), ("c",)),), (("make", ("a", "x"), "sheet"), ("drop", ("a", "x"))))
        behind_make, _ = modelled(BESIDE, hands[1][0])
        both, _ = modelled(behind_make, hands[0][0])
        # It is done while no JOURNAL stands, or where one does.
        for phase in ("writes", "turns"):
            state = stepped_to(begun(BESIDE, hands), 0, phase)
            state, _ = stepped(state, (1,) * 4)
            self.assertEqual(cut(state), behind_make if phase == "writes" else both)
            state = stepped_to(state, 0, "turns")
            for _ in range(4):
                self.assertEqual(cut(state), both)
                state, _ = step(state, 0)
            self.assertTrue(is_tree(cut(state)))
            self.assertEqual(cut(state), both)

    def test_drawn(self):
        stood = 0
        for tree, hands, schedule in drawn(400, first=50):
            state = begun(tree, hands)
            for hand in schedule:
                _, (nodes, made, journal), _, key, turn, rows = state
                found = cut(state)
                self.assertTrue(is_tree(found))
                if journal is None:
                    self.assertEqual(found, tree_of(state))
                else:
                    stood += 1
                    deed = hands[key][rows[key][0]]
                    self.assertEqual((deed[0], deed[1][-1], deed[2][-1]), (journal[0], journal[2], journal[4]))
                    if turn % 2 == 0:
                        self.assertEqual(found, modelled(tree_of(state), deed)[0])
                state, _ = step(state, hand)
        self.assertGreater(stood, 50)

    def test_by_name_and_nothing_is_changed(self):
        state = stepped_to(begun(SMALL, ((DEEDS[0][1],),)), 0, "ins")
        kept = copy.deepcopy(state)
        self.assertEqual(cut(state=state), cut(state))
        self.assertEqual(repr(state), repr(kept))


if __name__ == "__main__":
    unittest.main()
