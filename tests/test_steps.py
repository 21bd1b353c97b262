"""[51] to [55]: STEPS ahead of the locks; a hand that is none; what WAITS, AGAIN and TELLS are."""

import copy
import unittest

from drawerways.errors import NoHand, RunError
from drawerways.states import begun, tree_of
from drawerways.steps import step

from scripts import new, played, played_on, row, stepped, stepped_to, through, told_alone
from things import BESIDE, CHAIN, DEEP, HUGE, NEVER, SMALL, deep, just_tuples

LOOK_A = (("look", ("a",)),)
MOVE_B = (("move", ("b",), ("a", "c")),)
DROP_A = (("drop", ("a",)),)


class Hands(unittest.TestCase):
    def refused(self, state, thing):
        kept = copy.deepcopy((state, thing))
        with self.assertRaises(NoHand) as caught:
            step(state, thing)
        self.assertIs(type(caught.exception), NoHand)
        self.assertIsInstance(caught.exception, RunError)
        self.assertIs(caught.exception.hand, thing)
        self.assertEqual(repr((state, thing)), repr(kept))

    def test_no_such_hand(self):
        for many in range(3):
            state = begun(SMALL, (LOOK_A,) * many)
            for thing in NEVER + [many, many + 1, HUGE, "a", (), (0,), [0], "0", deep(40), (0, 0), "look"]:
                self.refused(state, thing)

    def test_no_such_hand_in_the_midst(self):
        state = begun(SMALL, (MOVE_B, LOOK_A))
        for _ in range(12):
            for thing in (True, False, -1, -2, 2, 3, None, "", "1", [1], (1,)):
                self.refused(state, thing)
            state, _ = step(state, 0)

    def test_by_name(self):
        state = begun(SMALL, (LOOK_A,))
        self.assertEqual(step(hand=0, state=state), step(state, 0))

    def test_through(self):
        state = played(self, SMALL, ((), LOOK_A), [((0, "rests"), {}), ((0, "rests"), {})])
        state, _ = told_alone(state, 1)
        played_on(self, state, [((1, "rests"), {}), ((0, "rests"), {}), ((1, "rests"), {})])

    def test_nothing_is_changed(self):
        state = begun(DEEP, ((("move", ("b",), ("a", "d")), ("drop", ("c",))), (("make", ("d",), "sheet"),)))
        for hand in (0, 1, 0, 0, 1, 0, 1, 0, 0, 0, 1, 0, 0, 0, 0, 0, 0, 0, 0, 0, 0):
            kept = copy.deepcopy(state)
            first = step(state, hand)
            self.assertEqual(state, kept)
            self.assertEqual(step(state, hand), first)
            self.assertTrue(just_tuples(first))
            state = first[0]


class Walks(unittest.TestCase):
    def test_look(self):
        played(self, SMALL, (LOOK_A,), [
            ((0, "begin", 0, 0), {"row": row(0, "walks", 0, (0,))}),
            ((0, "walk", 0, 1), {"row": row(0, "last", 0, (1,), 1, ("found", "drawer", 1))}),
            ((0, "told", 0, ("found", "drawer", 1)), {"row": through(1)}),
        ])

    def test_look_of_a_sheet_and_of_the_top(self):
        played(self, SMALL, ((("look", ("b",)), ("look", ())),), [
            ((0, "begin", 0, 0), {"row": row(0, "walks", 0, (0,))}),
            ((0, "walk", 0, 3), {"row": row(0, "last", 0, (3,), 1, ("found", "sheet", 3))}),
            ((0, "told", 0, ("found", "sheet", 3)), {"row": new(1)}),
            ((0, "begin", 1, 0), {"row": row(1, "last", 0, (0,), 0, ("found", "drawer", 0))}),
            ((0, "told", 1, ("found", "drawer", 0)), {"row": through(2)}),
        ])

    def test_look_far(self):
        played(self, CHAIN, ((("look", ("a", "a", "a", "a")),),), [
            ((0, "begin", 0, 0), {"row": row(0, "walks", 0, (0,))}),
            ((0, "walk", 0, 4), {"row": row(0, "walks", 0, (4,), 1)}),
            ((0, "walk", 1, 2), {"row": row(0, "walks", 0, (2,), 2)}),
            ((0, "walk", 2, 1), {"row": row(0, "walks", 0, (1,), 3)}),
            ((0, "walk", 3, 6), {"row": row(0, "last", 0, (6,), 4, ("found", "drawer", 6))}),
            ((0, "told", 0, ("found", "drawer", 6)), {"row": through(1)}),
        ])

    def test_look_that_misses(self):
        played(self, SMALL, ((("look", ("x", "y")), ("look", ("a", "x", "y")), ("look", ("b", "x")),),), [
            ((0, "begin", 0, 0), {"row": row(0, "walks", 0, (0,))}),
            ((0, "walk", 0, None), {"row": row(0, "last", 0, (0,), 0, ("none", 0))}),
            ((0, "told", 0, ("none", 0)), {"row": new(1)}),
            ((0, "begin", 1, 0), {"row": row(1, "walks", 0, (0,))}),
            ((0, "walk", 0, 1), {"row": row(1, "walks", 0, (1,), 1)}),
            ((0, "walk", 1, None), {"row": row(1, "last", 0, (1,), 1, ("none", 1))}),
            ((0, "told", 1, ("none", 1)), {"row": new(2)}),
            ((0, "begin", 2, 0), {"row": row(2, "walks", 0, (0,))}),
            ((0, "walk", 0, 3), {"row": row(2, "last", 0, (3,), 1, ("sheet", 1))}),
            ((0, "told", 2, ("sheet", 1)), {"row": through(3)}),
        ])

    def test_list(self):
        played(self, SMALL, ((("list", ()), ("list", ("a",)), ("list", ("b",)), ("list", ("b", "c"))),), [
            ((0, "begin", 0, 0), {"row": row(0, "locks", 0, (0,))}),
            ((0, "locks", 0), {"row": row(0, "commits", 0, (0,)), "locks": ((0, 0),)}),
            ((0, "told", 0, ("names", ("a", "b"))), {"row": new(1), "locks": ()}),
            ((0, "begin", 1, 0), {"row": row(1, "walks", 0, (0,))}),
            ((0, "walk", 0, 1), {"row": row(1, "locks", 0, (1,), 1)}),
            ((0, "locks", 1), {"row": row(1, "commits", 0, (1,), 1), "locks": ((1, 0),)}),
            ((0, "told", 1, ("names", ())), {"row": new(2), "locks": ()}),
            ((0, "begin", 2, 0), {"row": row(2, "walks", 0, (0,))}),
            ((0, "walk", 0, 3), {"row": row(2, "last", 0, (3,), 1, ("sheet", 1))}),
            ((0, "told", 2, ("sheet", 1)), {"row": new(3)}),
            ((0, "begin", 3, 0), {"row": row(3, "walks", 0, (0,))}),
            ((0, "walk", 0, 3), {"row": row(3, "last", 0, (3,), 1, ("sheet", 1))}),
            ((0, "told", 3, ("sheet", 1)), {"row": through(4)}),
        ])

    def test_make_and_drop_read_all_but_the_last_name(self):
        deeds = (("make", ("a", "x"), "sheet"), ("drop", ("b", "x")), ("make", ("x", "y", "z"), "drawer"))
        nodes = ((0, "drawer", (("a", 1), ("b", 3))), (1, "drawer", (("x", 4),)), (3, "sheet", ()), (4, "sheet", ()))
        played(self, SMALL, (deeds,), [
            ((0, "begin", 0, 0), {"row": row(0, "walks", 0, (0,))}),
            ((0, "walk", 0, 1), {"row": row(0, "locks", 0, (1,), 1)}),
            ((0, "locks", 1), {"row": row(0, "commits", 0, (1,), 1), "locks": ((1, 0),)}),
            ((0, "told", 0, ("made", 4)), {"row": new(1), "locks": (), "nodes": nodes, "made": 5}),
            ((0, "begin", 1, 0), {"row": row(1, "walks", 0, (0,))}),
            ((0, "walk", 0, 3), {"row": row(1, "last", 0, (3,), 1, ("sheet", 1))}),
            ((0, "told", 1, ("sheet", 1)), {"row": new(2)}),
            ((0, "begin", 2, 0), {"row": row(2, "walks", 0, (0,))}),
            ((0, "walk", 0, None), {"row": row(2, "last", 0, (0,), 0, ("none", 0))}),
            ((0, "told", 2, ("none", 0)), {"row": through(3)}),
        ])

    def test_two_ways(self):
        played(self, BESIDE, ((("link", ("b", "a"), ("a", "x")),),), [
            ((0, "key"), {"key": 0}),
            ((0, "begin", 0, 0), {"row": row(0, "walks", 0, (0,))}),
            ((0, "walk", 0, 2), {"row": row(0, "walks", 0, (2, 0))}),
            ((0, "walk", 0, 7), {"row": row(0, "locks", 0, (2, 7), 1)}),
        ])

    def test_two_ways_without_names_to_be_read(self):
        played(self, SMALL, ((("move", ("a",), ("c",)),),), [
            ((0, "key"), {"key": 0}),
            ((0, "begin", 0, 0), {"row": row(0, "locks", 0, (0, 0))}),
        ])
        played(self, BESIDE, ((("swap", ("a",), ("b", "a")),),), [
            ((0, "key"), {"key": 0}),
            ((0, "begin", 0, 0), {"row": row(0, "walks", 0, (0, 0))}),
            ((0, "walk", 0, 2), {"row": row(0, "locks", 0, (0, 2), 1)}),
        ])
        played(self, BESIDE, ((("move", ("a", "a"), ("x",)),),), [
            ((0, "key"), {"key": 0}),
            ((0, "begin", 0, 0), {"row": row(0, "walks", 0, (0,))}),
            ((0, "walk", 0, 7), {"row": row(0, "locks", 0, (7, 0))}),
        ])

    def test_the_first_way_misses(self):
        for word in ("link", "move", "swap"):
            played(self, SMALL, (((word, ("a", "x", "y"), ("q", "r")), (word, ("b", "x"), ("q", "r"))),), [
                ((0, "key"), {"key": 0}),
                ((0, "begin", 0, 0), {"row": row(0, "walks", 0, (0,))}),
                ((0, "walk", 0, 1), {"row": row(0, "walks", 0, (1,), 1)}),
                ((0, "walk", 1, None), {"row": row(0, "last", 0, (1,), 1, ("none", 1, 0))}),
                ((0, "told", 0, ("none", 1, 0)), {"row": new(1), "key": None}),
                ((0, "key"), {"key": 0}),
                ((0, "begin", 1, 0), {"row": row(1, "walks", 0, (0,))}),
                ((0, "walk", 0, 3), {"row": row(1, "last", 0, (3,), 1, ("sheet", 1, 0))}),
                ((0, "told", 1, ("sheet", 1, 0)), {"row": through(2), "key": None}),
            ])

    def test_the_first_way_goes_through_a_sheet(self):
        played(self, SMALL, ((("move", ("b", "x", "y"), ("q",)),),), [
            ((0, "key"), {"key": 0}),
            ((0, "begin", 0, 0), {"row": row(0, "walks", 0, (0,))}),
            ((0, "walk", 0, 3), {"row": row(0, "last", 0, (3,), 1, ("sheet", 1, 0))}),
            ((0, "told", 0, ("sheet", 1, 0)), {"row": through(1), "key": None}),
        ])

    def test_the_second_way_misses(self):
        for word in ("link", "move", "swap"):
            played(self, SMALL, (((word, ("a", "x"), ("a", "q", "r")), (word, ("a",), ("b", "q", "r"))),), [
                ((0, "key"), {"key": 0}),
                ((0, "begin", 0, 0), {"row": row(0, "walks", 0, (0,))}),
                ((0, "walk", 0, 1), {"row": row(0, "walks", 0, (1, 0))}),
                ((0, "walk", 0, 1), {"row": row(0, "walks", 0, (1, 1), 1)}),
                ((0, "walk", 1, None), {"row": row(0, "last", 0, (1, 1), 1, ("none", 1, 1))}),
                ((0, "told", 0, ("none", 1, 1)), {"row": new(1), "key": None}),
                ((0, "key"), {"key": 0}),
                ((0, "begin", 1, 0), {"row": row(1, "walks", 0, (0, 0))}),
                ((0, "walk", 0, 3), {"row": row(1, "last", 0, (0, 3), 1, ("sheet", 1, 1))}),
                ((0, "told", 1, ("sheet", 1, 1)), {"row": through(2), "key": None}),
            ])

    def test_the_second_way_ends_at_a_sheet(self):
        played(self, SMALL, ((("move", ("a",), ("b", "q")),),), [
            ((0, "key"), {"key": 0}),
            ((0, "begin", 0, 0), {"row": row(0, "walks", 0, (0, 0))}),
            ((0, "walk", 0, 3), {"row": row(0, "last", 0, (0, 3), 1, ("sheet", 1, 1))}),
            ((0, "told", 0, ("sheet", 1, 1)), {"row": through(1), "key": None}),
        ])

    def test_what_others_did_meanwhile_is_seen(self):
        # A drawer is made where the WAY goes on.
        state = begun(SMALL, ((("look", ("a", "x")),), (("make", ("a", "x"), "drawer"),)))
        state, _ = stepped(state, (0, 0))
        state, _ = told_alone(state, 1)
        played_on(self, state, [
            ((0, "walk", 1, 4), {"row": row(0, "last", 0, (4,), 2, ("found", "drawer", 4))}),
            ((0, "told", 0, ("found", "drawer", 4)), {"row": through(1)}),
        ])

    def test_a_drawer_that_lives_no_more_has_no_names(self):
        state = begun(SMALL, ((("look", ("a", "x", "y")), ("look", ("a",))), DROP_A))
        state, _ = stepped(state, (0, 0))
        state, _ = told_alone(state, 1)
        played_on(self, state, [
            ((0, "walk", 1, None), {"row": row(0, "last", 0, (1,), 1, ("none", 1))}),
            ((0, "told", 0, ("none", 1)), {"row": new(1)}),
            ((0, "begin", 1, 0), {"row": row(1, "walks", 0, (0,))}),
            ((0, "walk", 0, None), {"row": row(1, "last", 0, (0,), 0, ("none", 0))}),
            ((0, "told", 1, ("none", 0)), {"row": through(2)}),
        ])


class Waits(unittest.TestCase):
    def test_the_key(self):
        hands = (MOVE_B, (("link", ("b",), ("c",)),), (("swap", ("a",), ("b",)),), LOOK_A)
        state = played(self, SMALL, hands, [
            ((1, "key"), {"key": 1}),
            ((0, "waits", "key", 1), {}),
            ((2, "waits", "key", 1), {}),
            ((3, "begin", 0, 0), {"row": row(0, "walks", 0, (0,))}),
            ((1, "begin", 0, 0), {"row": row(0, "locks", 0, (0, 0))}),
            ((0, "waits", "key", 1), {}),
        ])
        state, events = told_alone(state, 1)
        self.assertEqual(events[-1], (1, "told", 0, ("linked", 3)))
        played_on(self, state, [
            ((2, "key"), {"key": 2}),
            ((0, "waits", "key", 2), {}),
            ((2, "begin", 0, 0), {"row": row(0, "locks", 0, (0, 0))}),
        ])

    def test_the_key_is_waited_for_at_an_odd_turn_too(self):
        state = stepped_to(begun(SMALL, (MOVE_B, (("move", ("a",), ("c",)),))), 0, "outs")
        self.assertEqual(step(state, 1), (state, (1, "waits", "key", 0)))

    def test_the_turn(self):
        for phase in ("outs", "ins", "ends"):
            hands = (LOOK_A, MOVE_B, (("list", ()),), (("drop", ("b",)), ("make", ("c",), "sheet")))
            state = stepped_to(begun(SMALL, hands), 1, phase)
            for hand in (0, 2, 3):
                self.assertEqual(step(state, hand), (state, (hand, "waits", "turn", 1)))

    def test_each_phase_at_which_the_turn_is_even(self):
        state = begun(SMALL, (LOOK_A, MOVE_B))
        for phase in ("new", "locks", "looks", "writes", "turns"):
            state = stepped_to(state, 1, phase)
            played_on(self, state, [((0, "begin", 0, 0), {"row": row(0, "walks", 0, (0,))})])

    def test_the_turn_behind_a_move(self):
        state, _ = told_alone(begun(SMALL, (LOOK_A, MOVE_B)), 1)
        played_on(self, state, [((0, "begin", 0, 2), {"row": row(0, "walks", 2, (0,))})])

    def test_a_walk_goes_on_at_an_odd_turn(self):
        state, _ = step(begun(SMALL, ((("look", ("b",)),), MOVE_B)), 0)
        state = stepped_to(state, 1, "outs")
        played_on(self, state, [
            ((0, "walk", 0, 3), {"row": row(0, "last", 0, (3,), 1, ("found", "sheet", 3))}),
            ((0, "again", 0, "turn"), {"row": new(0)}),
            ((0, "waits", "turn", 1), {}),
        ])
        state = stepped_to(state, 1, "ins")
        played_on(self, state, [((0, "walk", 0, None), {"row": row(0, "last", 0, (0,), 0, ("none", 0))})])


class Last(unittest.TestCase):
    def test_again_of_one_way(self):
        # What would be told: "found", a "none", a "sheet"; of "look", "list", "make", "drop".
        for deed, steps, due in (
            (("look", ("a",)), 2, ("found", "drawer", 1)), (("look", ()), 1, ("found", "drawer", 0)),
            (("look", ("x",)), 2, ("none", 0)), (("look", ("b", "x")), 2, ("sheet", 1)),
            (("list", ("b",)), 2, ("sheet", 1)), (("list", ("x",)), 2, ("none", 0)),
            (("make", ("b", "x"), "sheet"), 2, ("sheet", 1)), (("make", ("x", "y"), "sheet"), 2, ("none", 0)),
            (("drop", ("b", "x")), 2, ("sheet", 1)), (("drop", ("x", "y")), 2, ("none", 0)),
        ):
            at_last, _ = stepped(begun(SMALL, ((deed,), MOVE_B)), (0,) * steps)
            self.assertEqual(at_last[5][0][1::4], ("last", due))
            for phase in ("new", "locks", "looks", "writes", "turns"):
                state = stepped_to(at_last, 1, phase)
                played_on(self, state, [((0, "told", 0, due), {"row": through(1)})])
            for phase in ("outs", "ins", "ends"):
                state = stepped_to(at_last, 1, phase)
                played_on(self, state, [((0, "again", 0, "turn"), {"row": new(0)}), ((0, "waits", "turn", 1), {})])
            state, _ = told_alone(at_last, 1)
            played_on(self, state, [((0, "again", 0, "turn"), {"row": new(0)})])
            self.assertEqual(step(step(state, 0)[0], 0)[1], (0, "begin", 0, 2))

    def test_of_one_way_a_dead_drawer_is_not_asked_for(self):
        state, _ = stepped(begun(SMALL, ((("list", ("a", "x")),), DROP_A)), (0, 0, 0))
        state, _ = told_alone(state, 1)
        self.assertEqual(step(state, 0)[1], (0, "told", 0, ("none", 1)))

    def dead(self, tree, deed, steps, drops, due):
        """Let others drop, one behind another, while a DEED of two WAYS is in "last"; it goes AGAIN with the KEY."""
        state, events = stepped(begun(tree, ((deed,), drops)), (0,) * steps)
        self.assertEqual(state[5][0][1::4], ("last", due), events)
        for _ in drops:
            state, _ = told_alone(state, 1)
        state = played_on(self, state, [((0, "again", 0, "dead"), {"row": new(0)})])
        self.assertEqual(state[3], 0)
        self.assertEqual(step(state, 0)[1], (0, "begin", 0, 0))

    def test_dead(self):
        for word in ("link", "move", "swap"):
            # The first spot of a "none" of the first WAY, and of both of the second; and of a "sheet" of the second.
            self.dead(SMALL, (word, ("a", "x", "y"), ("b",)), 4, DROP_A, ("none", 1, 0))
            self.dead(SMALL, (word, ("a", "x"), ("x", "y")), 4, DROP_A, ("none", 0, 1))
            self.dead(SMALL, (word, ("a",), ("a", "x", "y")), 4, DROP_A, ("none", 1, 1))
            self.dead(SMALL, (word, ("a", "x"), ("b", "y")), 4, DROP_A, ("sheet", 1, 1))
            # Both, or the second one alone.
            self.dead(BESIDE, (word, ("b", "b", "x"), ("a", "a", "x", "y")), 7, (
                ("drop", ("b", "b")), ("drop", ("a", "a"))), ("none", 2, 1))
            self.dead(BESIDE, (word, ("b", "b", "x"), ("a", "a", "x", "y")), 7, (("drop", ("a", "a")),), ("none", 2, 1))

    def test_dead_behind_the_walk_or_ahead_of_it(self):
        # The drawer lives no more when the NAME is looked for in it; the "none" is no less due.
        for word in ("link", "move", "swap"):
            state, _ = stepped(begun(SMALL, (((word, ("a", "x", "y"), ("b",)),), DROP_A)), (0,) * 3)
            state, _ = told_alone(state, 1)
            played_on(self, state, [
                ((0, "walk", 1, None), {"row": row(0, "last", 0, (1,), 1, ("none", 1, 0))}),
                ((0, "again", 0, "dead"), {"row": new(0)}),
                ((0, "begin", 0, 0), {"row": row(0, "walks", 0, (0,))}),
                ((0, "walk", 0, None), {"row": row(0, "last", 0, (0,), 0, ("none", 0, 0))}),
                ((0, "told", 0, ("none", 0, 0)), {"row": through(1), "key": None}),
            ])

    def test_a_sheet_of_the_first_way_whether_it_lives_or_not(self):
        for word in ("link", "move", "swap"):
            for drops in ((), (("drop", ("b",)),)):
                hands = (((word, ("b", "x"), ("a", "y")),), drops)
                state, _ = stepped(begun(SMALL, hands), (0, 0, 0))
                self.assertEqual(state[5][0], row(0, "last", 0, (3,), 1, ("sheet", 1, 0)))
                for _ in drops:
                    state, _ = told_alone(state, 1)
                self.assertEqual(3 in [node for node, _, _ in tree_of(state)[0]], drops == ())
                # In the step of "last", not ahead of it: the STEP to "last" didn't tell.
                played_on(self, state, [((0, "told", 0, ("sheet", 1, 0)), {"row": through(1), "key": None})])

    def test_a_sheet_of_the_second_way_that_lives_no_more(self):
        # Of these the first spot alone is asked for.
        for word in ("link", "move", "swap"):
            hands = (((word, ("a", "x"), ("b", "y")),), (("drop", ("b",)),))
            state, _ = stepped(begun(SMALL, hands), (0,) * 4)
            self.assertEqual(state[5][0], row(0, "last", 0, (1, 3), 1, ("sheet", 1, 1)))
            state, _ = told_alone(state, 1)
            played_on(self, state, [((0, "told", 0, ("sheet", 1, 1)), {"row": through(1), "key": None})])

    def test_tells_frees_the_key_alone_that_it_has(self):
        state, _ = stepped(begun(SMALL, (MOVE_B, LOOK_A)), (0, 1, 1))
        self.assertEqual(state[3], 0)
        state = played_on(self, state, [((1, "told", 0, ("found", "drawer", 1)), {"row": through(1)})])
        self.assertEqual(state[3], 0)


if __name__ == "__main__":
    unittest.main()
