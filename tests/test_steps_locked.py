"""[56], [57]: STEPS from the locks on: which drawer is held first, what is TOLD there, and how a JOURNAL is done."""

import unittest

from drawerways.states import begun, tree_of
from drawerways.steps import step

from model import modelled
from scripts import new, played, played_on, row, stepped, stepped_to, through, told_alone
from things import BESIDE, CHAIN, DEEP, EMPTY_TREE, SHEETS, SMALL, WINDING

LOOK_A = (("look", ("a",)),)

# One drawer within another, far within, and one beside: 1 in 2 in 4 in 0, 6 in 1; NUMBERS fall on the way down.
UPPER = (
    (
        (0, "drawer", (("a", 4), ("c", 3), ("d", 5))),
        (1, "drawer", (("a", 6),)),
        (2, "drawer", (("a", 1), ("s", 7))),
        (3, "drawer", (("s", 7),)),
        (4, "drawer", (("a", 2), ("s", 7))),
        (5, "drawer", ()),
        (6, "drawer", ()),
        (7, "sheet", ()),
    ),
    8,
)


def first_held(tree, deed):
    """Which drawers a DEED of two WAYS holds, in its order."""
    state, events = told_alone(begun(tree, ((deed,),)), 0)
    return [event[2] for event in events if event[1] == "locks"]


class OneWay(unittest.TestCase):
    def test_list_and_make_and_drop_in_the_top(self):
        nodes = ((0, "drawer", (("a", 1), ("b", 3), ("c", 4))), (1, "drawer", ()), (3, "sheet", ()), (4, "drawer", ()))
        later = ((0, "drawer", (("a", 1), ("c", 4))), (1, "drawer", ()), (4, "drawer", ()))
        held = {"row": row(0, "commits", 0, (0,)), "locks": ((0, 0),)}
        played(self, SMALL, ((("make", ("c",), "drawer"), ("drop", ("b",)), ("list", ())),), [
            ((0, "begin", 0, 0), {"row": row(0, "locks", 0, (0,))}),
            ((0, "locks", 0), held),
            ((0, "told", 0, ("made", 4)), {"row": new(1), "locks": (), "nodes": nodes, "made": 5}),
            ((0, "begin", 1, 0), {"row": row(1, "locks", 0, (0,))}),
            ((0, "locks", 0), {"row": row(1, "commits", 0, (0,)), "locks": ((0, 0),)}),
            ((0, "told", 1, ("dropped", 3)), {"row": new(2), "locks": (), "nodes": later}),
            ((0, "begin", 2, 0), {"row": row(2, "locks", 0, (0,))}),
            ((0, "locks", 0), {"row": row(2, "commits", 0, (0,)), "locks": ((0, 0),)}),
            ((0, "told", 2, ("names", ("a", "c"))), {"row": through(3), "locks": ()}),
        ])

    def test_what_is_told_there(self):
        # In "commits", where no STEP more is due.
        for tree, deed, told in (
            (SMALL, ("make", ("a",), "sheet"), ("there",)), (SMALL, ("make", ("b",), "drawer"), ("there",)),
            (SMALL, ("make", ("c",), "sheet"), ("made", 4)), (SMALL, ("make", ("a", "b"), "sheet"), ("made", 4)),
            (SMALL, ("drop", ("x",)), ("none", 0)), (SMALL, ("drop", ("a", "x")), ("none", 1)),
            (DEEP, ("drop", ("a", "a", "x")), ("none", 2)), (SMALL, ("drop", ("b",)), ("dropped", 3)),
            (SHEETS, ("drop", ("a",)), ("dropped", 1)), (DEEP, ("list", ("a", "a")), ("names", ("a", "b", "c"))),
            (SMALL, ("list", ("a",)), ("names", ())),
        ):
            state = stepped_to(begun(tree, ((deed,),)), 0, "commits")
            due, _ = modelled(tree, deed)
            nodes, made = due
            played_on(self, state, [
                ((0, "told", 0, told), {"row": through(1), "locks": (), "nodes": nodes, "made": made}),
            ])

    def test_drop_of_a_drawer(self):
        gone = ((0, "drawer", (("b", 3),)), (3, "sheet", ()))
        played(self, SMALL, ((("drop", ("a",)),),), [
            ((0, "begin", 0, 0), {"row": row(0, "locks", 0, (0,))}),
            ((0, "locks", 0), {"row": row(0, "commits", 0, (0,)), "locks": ((0, 0),)}),
            ((0, "finds", 1, None), {"row": row(0, "lower", 0, (0,), 0, 1)}),
            ((0, "locks", 1), {"row": row(0, "empties", 0, (0,), 0, 1), "locks": ((0, 0), (1, 0))}),
            ((0, "told", 0, ("dropped", 1)), {"row": through(1), "locks": (), "nodes": gone}),
        ])

    def test_drop_of_a_full_drawer(self):
        played(self, BESIDE, ((("drop", ("a",)), ("drop", ("a", "a"))),), [
            ((0, "begin", 0, 0), {"row": row(0, "locks", 0, (0,))}),
            ((0, "locks", 0), {"row": row(0, "commits", 0, (0,)), "locks": ((0, 0),)}),
            ((0, "finds", 7, None), {"row": row(0, "lower", 0, (0,), 0, 7)}),
            ((0, "locks", 7), {"row": row(0, "empties", 0, (0,), 0, 7), "locks": ((0, 0), (7, 0))}),
            ((0, "told", 0, ("full",)), {"row": new(1), "locks": ()}),
            ((0, "begin", 1, 0), {"row": row(1, "walks", 0, (0,))}),
            ((0, "walk", 0, 7), {"row": row(1, "locks", 0, (7,), 1)}),
            ((0, "locks", 7), {"row": row(1, "commits", 0, (7,), 1), "locks": ((7, 0),)}),
            ((0, "finds", 8, None), {"row": row(1, "lower", 0, (7,), 1, 8)}),
            ((0, "locks", 8), {"row": row(1, "empties", 0, (7,), 1, 8), "locks": ((7, 0), (8, 0))}),
        ])

    def test_whether_it_is_full_is_as_it_is_in_empties(self):
        # Filled while the drop waits in "lower"; emptied meanwhile.
        state = stepped_to(begun(SMALL, ((("drop", ("a",)),), (("make", ("a", "x"), "sheet"),))), 0, "lower")
        state, _ = told_alone(state, 1)
        self.assertEqual(told_alone(state, 0)[1][-1], (0, "told", 0, ("full",)))
        state = stepped_to(begun(BESIDE, ((("drop", ("b", "b")),), (("make", ("b", "b", "x"), "sheet"), (
            "drop", ("b", "b", "x"))))), 0, "lower")
        state, _ = told_alone(state, 1)
        state, _ = told_alone(state, 1)
        self.assertEqual(told_alone(state, 0)[1][-1], (0, "told", 0, ("dropped", 4)))

    def test_commits_again(self):
        for deed in (("list", ("a",)), ("make", ("a", "x"), "sheet"), ("drop", ("a", "x"))):
            # Something began to be moved; the lock is free, the TURN asked ahead of whether the drawer lives.
            for phase in ("outs", "ins", "ends"):
                state = stepped_to(begun(BESIDE, ((deed,), (("move", ("b", "a"), ("c",)),))), 0, "commits")
                state = stepped_to(state, 1, phase)
                self.assertEqual([lock for lock in state[2] if lock[1] == 0], [(7, 0)])
                state = played_on(self, state, [
                    ((0, "again", 0, "turn"), {"row": new(0), "locks": tuple(lock for lock in state[2] if lock[1])}),
                    ((0, "waits", "turn", 1), {}),
                ])
            # Dropped while it was walked to; it is held all the same.
            played_on(self, told_alone(stepped_to(begun(SMALL, ((deed,), (("drop", ("a",)),))), 0, "locks"), 1)[0], [
                ((0, "locks", 1), {"row": row(0, "commits", 0, (1,), 1), "locks": ((1, 0),)}),
                ((0, "again", 0, "dead"), {"row": new(0), "locks": ()}),
                ((0, "begin", 0, 0), {"row": row(0, "walks", 0, (0,))}),
                ((0, "walk", 0, None), {"row": row(0, "last", 0, (0,), 0, ("none", 0))}),
            ])

    def test_commits_again_the_turn_ahead_of_the_dead(self):
        state = stepped_to(begun(BESIDE, (
            (("make", ("a", "a", "x"), "sheet"),), (("drop", ("a", "a")), ("move", ("b", "a"), ("c",))))), 0, "locks")
        state, _ = told_alone(state, 1)
        state, _ = told_alone(state, 1)
        played_on(self, state, [
            ((0, "locks", 8), {"row": row(0, "commits", 0, (8,), 2), "locks": ((8, 0),)}),
            ((0, "again", 0, "turn"), {"row": new(0), "locks": ()}),
            ((0, "begin", 0, 2), {"row": row(0, "walks", 2, (0,))}),
        ])

    def test_drop_again_in_empties(self):
        state = stepped_to(begun(BESIDE, ((("drop", ("b", "b")),), (("swap", ("a", "a"), ("a", "c")),))), 0, "lower")
        for phase in ("outs", "ins", "ends"):
            moving = stepped_to(state, 1, phase)
            played_on(self, moving, [
                ((0, "locks", 4), {
                    "row": row(0, "empties", 0, (2,), 1, 4), "locks": ((2, 0), (4, 0), (7, 1)),
                }),
                ((0, "again", 0, "turn"), {"row": new(0), "locks": ((7, 1),)}),
            ])

    def test_waiting_for_a_drawer(self):
        state = stepped_to(begun(SMALL, ((("list", ("a",)),), (("make", ("a", "x"), "sheet"),))), 1, "commits")
        state = stepped_to(state, 0, "locks")
        played_on(self, state, [
            ((0, "waits", 1, 1), {}),
            ((0, "waits", 1, 1), {}),
            ((1, "told", 0, ("made", 4)), {
                "row": through(1), "locks": (), "made": 5,
                "nodes": (
                    (0, "drawer", (("a", 1), ("b", 3))), (1, "drawer", (("x", 4),)), (3, "sheet", ()), (4, "sheet", ()),
                ),
            }),
            ((0, "locks", 1), {"row": row(0, "commits", 0, (1,), 1), "locks": ((1, 0),)}),
            ((0, "told", 0, ("names", ("x",))), {"row": through(1), "locks": ()}),
        ])

    def test_waiting_in_lower(self):
        state = stepped_to(begun(SMALL, ((("drop", ("a",)),), (("list", ("a",)),))), 1, "commits")
        state = stepped_to(state, 0, "lower")
        state = played_on(self, state, [
            ((0, "waits", 1, 1), {}),
            ((1, "told", 0, ("names", ())), {"row": through(1), "locks": ((0, 0),)}),
            ((0, "locks", 1), {"row": row(0, "empties", 0, (0,), 0, 1), "locks": ((0, 0), (1, 0))}),
        ])
        self.assertEqual(step(state, 0)[1], (0, "told", 0, ("dropped", 1)))


class WhichIsFirst(unittest.TestCase):
    def test_one_within_the_other(self):
        # By NUMBER the lower ones would be first.
        for deed, order in (
            (("link", ("a", "s"), ("a", "a", "x")), [4, 2]), (("link", ("a", "a", "s"), ("a", "x")), [4, 2]),
            (("link", ("a", "s"), ("a", "a", "a", "x")), [4, 1]), (("move", ("a", "a", "a", "a"), ("a", "x")), [4, 1]),
            (("swap", ("a", "a", "a"), ("a", "s")), [4, 2]), (("swap", ("d",), ("c", "s")), [0, 3]),
            (("move", ("a", "a", "a", "a"), ("x",)), [0, 1]), (("link", ("a", "a", "s"), ("a", "a", "a", "x")), [2, 1]),
        ):
            self.assertEqual(first_held(UPPER, deed), order, deed)

    def test_beside_each_other(self):
        for deed, order in (
            (("link", ("a", "s"), ("c", "x")), [3, 4]), (("link", ("c", "s"), ("a", "x")), [3, 4]),
            (("move", ("c", "s"), ("a", "a", "x")), [2, 3]), (("move", ("a", "a", "s"), ("c", "x")), [2, 3]),
            (("swap", ("c", "s"), ("a", "a", "a", "a")), [1, 3]), (("link", ("c", "s"), ("d", "x")), [3, 5]),
        ):
            self.assertEqual(first_held(UPPER, deed), order, deed)

    def test_the_same(self):
        for deed, drawer in (
            (("link", ("a", "s"), ("a", "x")), 4), (("move", ("d",), ("x",)), 0), (("swap", ("c",), ("d",)), 0),
            (("move", ("a", "a", "a"), ("a", "a", "b")), 2),
        ):
            self.assertEqual(first_held(UPPER, deed), [drawer], deed)
        played(self, SMALL, ((("move", ("a",), ("c",)),),), [
            ((0, "key"), {"key": 0}),
            ((0, "begin", 0, 0), {"row": row(0, "locks", 0, (0, 0))}),
            ((0, "locks", 0), {"row": row(0, "looks", 0, (0, 0)), "locks": ((0, 0),)}),
        ])

    def test_each_step_of_two(self):
        played(self, BESIDE, ((("link", ("b", "a"), ("a", "x")),),), [
            ((0, "key"), {"key": 0}),
            ((0, "begin", 0, 0), {"row": row(0, "walks", 0, (0,))}),
            ((0, "walk", 0, 2), {"row": row(0, "walks", 0, (2, 0))}),
            ((0, "walk", 0, 7), {"row": row(0, "locks", 0, (2, 7), 1)}),
            ((0, "locks", 2), {"row": row(0, "locks", 0, (2, 7), 1), "locks": ((2, 0),)}),
            ((0, "locks", 7), {"row": row(0, "looks", 0, (2, 7), 1), "locks": ((2, 0), (7, 0))}),
        ])

    def test_waiting_for_the_first_and_for_the_second(self):
        hands = ((("link", ("c", "s"), ("a", "x")),), (("list", ("c",)),), (("list", ("a",)),))
        state = stepped_to(stepped_to(begun(UPPER, hands), 1, "commits"), 2, "commits")
        state = stepped_to(state, 0, "locks")
        played_on(self, state, [
            ((0, "waits", 3, 1), {}),
            ((1, "told", 0, ("names", ("s",))), {"row": through(1), "locks": ((4, 2),)}),
            ((0, "locks", 3), {"row": row(0, "locks", 0, (3, 4), 1), "locks": ((3, 0), (4, 2))}),
            ((0, "waits", 4, 2), {}),
            ((2, "told", 0, ("names", ("a", "s"))), {"row": through(1), "locks": ((3, 0),)}),
            ((0, "locks", 4), {"row": row(0, "looks", 0, (3, 4), 1), "locks": ((3, 0), (4, 0))}),
        ])

    def test_one_that_lives_no_more(self):
        # 8 stands in 7, so 7 is first; once 8 lives no more it stands in none, and the lesser NUMBER is first.
        tree = (((0, "drawer", (("a", 7),)), (1, "sheet", ()), (3, "drawer", ()), (7, "drawer", (("b", 3), ("s", 1)))), 8)
        deed = ("link", ("a", "s"), ("a", "b", "x"))
        self.assertEqual(first_held(tree, deed), [7, 3])
        state = stepped_to(begun(tree, ((deed,), (("drop", ("a", "b")),))), 0, "locks")
        state, _ = told_alone(state, 1)
        played_on(self, state, [
            ((0, "locks", 3), {"row": row(0, "locks", 0, (7, 3), 2), "locks": ((3, 0),)}),
            ((0, "locks", 7), {"row": row(0, "looks", 0, (7, 3), 2), "locks": ((3, 0), (7, 0))}),
            ((0, "again", 0, "dead"), {"row": new(0), "locks": ()}),
            ((0, "begin", 0, 0), {"row": row(0, "walks", 0, (0,))}),
        ])

    def test_which_is_first_is_asked_anew(self):
        # It waits for the upper one, which the "drop" of the lower one holds; then the lesser NUMBER is first.
        tree = (((0, "drawer", (("a", 7),)), (1, "sheet", ()), (3, "drawer", ()), (7, "drawer", (("b", 3), ("s", 1)))), 8)
        deed = ("link", ("a", "s"), ("a", "b", "x"))
        state = stepped_to(begun(tree, ((deed,), (("drop", ("a", "b")),), (("list", ("a",)),))), 0, "locks")
        state = stepped_to(state, 1, "empties")
        self.assertEqual(step(state, 0)[1], (0, "waits", 7, 1))
        state, _ = step(state, 1)
        state = stepped_to(state, 2, "commits")
        state, events = stepped(state, (0, 0))
        self.assertEqual(events, [(0, "locks", 3), (0, "waits", 7, 2)])

    def test_both_live_no_more(self):
        state = stepped_to(begun(BESIDE, (
            (("link", ("a", "a", "x"), ("b", "b", "x")),), (("drop", ("a", "a")),), (("drop", ("b", "b")),))), 0, "locks")
        state, _ = told_alone(told_alone(state, 1)[0], 2)
        state, events = stepped(state, (0, 0, 0))
        self.assertEqual(events, [(0, "locks", 4), (0, "locks", 8), (0, "again", 0, "dead")])


class Looks(unittest.TestCase):
    def told_there(self, tree, deed, told):
        """What a DEED TELLS in "looks", in that one STEP."""
        state = stepped_to(begun(tree, ((deed,),)), 0, "looks")
        (nodes, made), due = modelled(tree, deed)
        self.assertEqual(due, told, deed)
        played_on(self, state, [
            ((0, "told", 0, told), {"row": through(1), "locks": (), "key": None, "nodes": nodes, "made": made}),
        ])

    def test_none(self):
        for word in ("link", "move", "swap"):
            self.told_there(SMALL, (word, ("x",), ("y",)), ("none", 0, 0))
            self.told_there(SMALL, (word, ("a", "x"), ("b",)), ("none", 1, 0))
            self.told_there(SMALL, (word, ("a", "x"), ("a", "y")), ("none", 1, 0))
        self.told_there(SMALL, ("swap", ("a",), ("y",)), ("none", 0, 1))
        self.told_there(BESIDE, ("swap", ("b",), ("a", "a", "y")), ("none", 2, 1))

    def test_link(self):
        self.told_there(SMALL, ("link", ("a",), ("b",)), ("kind",))
        self.told_there(SMALL, ("link", ("a",), ("a",)), ("kind",))
        self.told_there(SMALL, ("link", ("b",), ("a",)), ("there",))
        self.told_there(SMALL, ("link", ("b",), ("b",)), ("there",))
        self.told_there(SMALL, ("link", ("b",), ("c",)), ("linked", 3))
        self.told_there(SMALL, ("link", ("b",), ("a", "b")), ("linked", 3))

    def test_move_refused(self):
        self.told_there(SMALL, ("move", ("a",), ("a",)), ("same",))
        self.told_there(SHEETS, ("move", ("a",), ("b",)), ("same",))
        self.told_there(SMALL, ("move", ("a",), ("a", "x")), ("inside",))
        self.told_there(CHAIN, ("move", ("a",), ("a", "a", "a", "b")), ("inside",))
        # "inside" ahead of "kind", "kind" ahead of "full".
        self.told_there(CHAIN, ("move", ("a",), ("a", "b")), ("inside",))
        self.told_there(SMALL, ("move", ("a",), ("b",)), ("kind",))
        self.told_there(SMALL, ("move", ("b",), ("a",)), ("kind",))
        self.told_there(BESIDE, ("move", ("b", "a"), ("a",)), ("kind",))
        self.told_there(BESIDE, ("move", ("b", "a"), ("b",)), ("kind",))

    def test_full_of_what_the_first_drawer_stands_in(self):
        # T is P; T is one that P stands in, far off.
        self.told_there(BESIDE, ("move", ("b", "b"), ("b",)), ("full",))
        self.told_there(CHAIN, ("move", ("a", "a", "a", "a"), ("a", "a", "a")), ("full",))
        self.told_there(CHAIN, ("move", ("a", "a", "a", "a"), ("a", "a")), ("full",))
        self.told_there(CHAIN, ("move", ("a", "a", "a", "a"), ("a",)), ("full",))

    def test_swap_refused(self):
        self.told_there(SMALL, ("swap", ("a",), ("a",)), ("same",))
        self.told_there(SHEETS, ("swap", ("a",), ("c",)), ("same",))
        self.told_there(BESIDE, ("swap", ("b",), ("b", "a")), ("inside",))
        self.told_there(BESIDE, ("swap", ("b", "a"), ("b",)), ("inside",))
        self.told_there(CHAIN, ("swap", ("a",), ("a", "a", "a", "a")), ("inside",))
        self.told_there(CHAIN, ("swap", ("a", "a", "a", "a"), ("a",)), ("inside",))

    def test_dead(self):
        for word in ("link", "move", "swap"):
            for ways in ((("a", "x"), ("b",)), (("b",), ("a", "x")), (("a", "x"), ("a", "y"))):
                state = stepped_to(begun(SMALL, (((word,) + ways,), (("drop", ("a",)),))), 0, "locks")
                state, _ = told_alone(state, 1)
                state = stepped_to(state, 0, "looks")
                played_on(self, state, [((0, "again", 0, "dead"), {"row": new(0), "locks": ()})])

    def test_what_is_there_is_as_it_is_then(self):
        # The NAME was made, or dropped, behind the walk.
        hands = ((("link", ("b",), ("a", "x")),), (("make", ("a", "x"), "sheet"),))
        state, _ = told_alone(stepped_to(begun(SMALL, hands), 0, "locks"), 1)
        self.assertEqual(told_alone(state, 0)[1][-1], (0, "told", 0, ("there",)))
        hands = ((("swap", ("b",), ("a",)),), (("drop", ("b",)),))
        state, _ = told_alone(stepped_to(begun(SMALL, hands), 0, "locks"), 1)
        self.assertEqual(told_alone(state, 0)[1][-1], (0, "told", 0, ("none", 0, 0)))

    def test_finds(self):
        for tree, deed, phase, due in (
            (SMALL, ("move", ("b",), ("a", "c")), "writes", ("move", 0, "b", 1, "c", 3, None)),
            (SMALL, ("move", ("a",), ("c",)), "writes", ("move", 0, "a", 0, "c", 1, None)),
            (SMALL, ("swap", ("a",), ("b",)), "writes", ("swap", 0, "a", 0, "b", 1, 3)),
            (BESIDE, ("swap", ("b", "b"), ("a", "c")), "writes", ("swap", 2, "b", 7, "c", 4, 3)),
            (BESIDE, ("swap", ("b", "b"), ("a", "a")), "writes", ("swap", 2, "b", 7, "a", 4, 8)),
            (WINDING, ("move", ("b", "c"), ("b", "a", "c")), "writes", ("move", 3, "c", 1, "c", 2, 5)),
            (BESIDE, ("move", ("b", "b"), ("a", "a")), "third", ("move", 2, "b", 7, "a", 4, 8)),
            (DEEP, ("move", ("b",), ("a", "a", "a")), "third", ("move", 0, "b", 3, "a", 2, 4)),
            # A full one, too, where P doesn't stand in it.
            (BESIDE, ("move", ("a",), ("b",)), "third", ("move", 0, "a", 0, "b", 7, 2)),
        ):
            state = stepped_to(begun(tree, ((deed,),)), 0, "looks")
            k, _, noted, spots, reads, _ = state[5][0]
            played_on(self, state, [
                ((0, "finds", due[5], due[6]), {"row": row(k, phase, noted, spots, reads, due)}),
            ])


class Moves(unittest.TestCase):
    def test_move(self):
        due = ("move", 0, "b", 1, "c", 3, None)
        between = ((0, "drawer", (("a", 1),)), (1, "drawer", ()), (3, "sheet", ()))
        behind = ((0, "drawer", (("a", 1),)), (1, "drawer", (("c", 3),)), (3, "sheet", ()))
        state = played(self, SMALL, ((("move", ("b",), ("a", "c")), ("look", ("b",))),), [
            ((0, "key"), {"key": 0}),
            ((0, "begin", 0, 0), {"row": row(0, "walks", 0, (0, 0))}),
            ((0, "walk", 0, 1), {"row": row(0, "locks", 0, (0, 1), 1)}),
            ((0, "locks", 0), {"row": row(0, "locks", 0, (0, 1), 1), "locks": ((0, 0),)}),
            ((0, "locks", 1), {"row": row(0, "looks", 0, (0, 1), 1), "locks": ((0, 0), (1, 0))}),
            ((0, "finds", 3, None), {"row": row(0, "writes", 0, (0, 1), 1, due)}),
            ((0, "journal", due), {"row": row(0, "turns", 0, (0, 1), 1, due), "journal": due}),
            ((0, "odd", 1), {"row": row(0, "outs", 0, (0, 1), 1, due), "turn": 1}),
            ((0, "out", 0, "b"), {"row": row(0, "ins", 0, (0, 1), 1, due), "nodes": between}),
            ((0, "in", 1, "c"), {"row": row(0, "ends", 0, (0, 1), 1, due), "nodes": behind}),
            ((0, "told", 0, ("moved", 3)), {"row": new(1), "turn": 2, "journal": None, "locks": (), "key": None}),
            ((0, "begin", 1, 2), {"row": row(1, "walks", 2, (0,))}),
        ])
        self.assertEqual(tree_of(state), (behind, 4))

    def ends(self, tree, deed, due, between, behind, told):
        """Each STEP from "writes" to "ends"."""
        state = stepped_to(begun(tree, ((deed,),)), 0, "writes")
        _, _, _, spots, reads, _ = state[5][0]
        self.assertEqual(state[5][0], row(0, "writes", 0, spots, reads, due))
        state = played_on(self, state, [
            ((0, "journal", due), {"row": row(0, "turns", 0, spots, reads, due), "journal": due}),
            ((0, "odd", 1), {"row": row(0, "outs", 0, spots, reads, due), "turn": 1}),
            ((0, "out", due[1], due[2]), {"row": row(0, "ins", 0, spots, reads, due), "nodes": between}),
            ((0, "in", due[3], due[4]), {"row": row(0, "ends", 0, spots, reads, due), "nodes": behind}),
            ((0, "told", 0, told), {"row": through(1), "turn": 2, "journal": None, "locks": (), "key": None}),
        ])
        self.assertEqual(tree_of(state), modelled(tree, deed)[0])

    def test_move_within_one_drawer(self):
        self.ends(
            SMALL, ("move", ("a",), ("c",)), ("move", 0, "a", 0, "c", 1, None),
            ((0, "drawer", (("b", 3),)), (1, "drawer", ()), (3, "sheet", ())),
            ((0, "drawer", (("b", 3), ("c", 1))), (1, "drawer", ()), (3, "sheet", ())), ("moved", 1),
        )

    def test_move_onto_a_sheet_with_one_name(self):
        rest = ((4, "drawer", (("a", 2), ("c", 6))), (5, "sheet", ()), (6, "drawer", ()))
        less = WINDING[0][:3] + ((3, "drawer", (("a", 1),)),) + rest
        self.ends(
            WINDING, ("move", ("b", "c"), ("b", "a", "c")), ("move", 3, "c", 1, "c", 2, 5), less,
            (WINDING[0][0], (1, "drawer", (("b", 4), ("c", 2))), (2, "sheet", ()), (3, "drawer", (("a", 1),)))
            + (rest[0], rest[2]), ("moved", 2),
        )

    def test_move_onto_a_sheet_with_several_names(self):
        tree = (((0, "drawer", (("a", 1), ("b", 2), ("c", 2), ("d", 3))), (1, "sheet", ()), (2, "sheet", ()),
                 (3, "drawer", (("a", 2),))), 4)
        self.ends(
            tree, ("move", ("a",), ("b",)), ("move", 0, "a", 0, "b", 1, 2),
            ((0, "drawer", (("b", 2), ("c", 2), ("d", 3))),) + tree[0][1:],
            ((0, "drawer", (("b", 1), ("c", 2), ("d", 3))),) + tree[0][1:], ("moved", 1),
        )
        self.ends(
            tree, ("move", ("a",), ("d", "a")), ("move", 0, "a", 3, "a", 1, 2),
            ((0, "drawer", (("b", 2), ("c", 2), ("d", 3))),) + tree[0][1:],
            ((0, "drawer", (("b", 2), ("c", 2), ("d", 3))),) + tree[0][1:3] + ((3, "drawer", (("a", 1),)),), ("moved", 1),
        )

    def test_move_of_a_sheet_with_several_names(self):
        self.ends(
            DEEP, ("move", ("c",), ("b", "c")), ("move", 0, "c", 2, "c", 5, None),
            ((0, "drawer", (("a", 1), ("b", 2))),) + DEEP[0][1:],
            ((0, "drawer", (("a", 1), ("b", 2))), DEEP[0][1], (2, "drawer", (("c", 5),))) + DEEP[0][3:], ("moved", 5),
        )

    def test_swap_within_one_drawer(self):
        self.ends(
            SMALL, ("swap", ("a",), ("b",)), ("swap", 0, "a", 0, "b", 1, 3),
            ((0, "drawer", (("a", 3), ("b", 3))), (1, "drawer", ()), (3, "sheet", ())),
            ((0, "drawer", (("a", 3), ("b", 1))), (1, "drawer", ()), (3, "sheet", ())), ("swapped", 1, 3),
        )

    def test_swap_between_two(self):
        top, two, three, four, seven, eight = BESIDE[0]
        self.ends(
            BESIDE, ("swap", ("b", "b"), ("a", "c")), ("swap", 2, "b", 7, "c", 4, 3),
            (top, (2, "drawer", (("a", 3), ("b", 3))), three, four, seven, eight),
            (top, (2, "drawer", (("a", 3), ("b", 3))), three, four, (7, "drawer", (("a", 8), ("c", 4))), eight),
            ("swapped", 4, 3),
        )

    def test_third_and_checks(self):
        due = ("move", 2, "b", 7, "a", 4, 8)
        state = stepped_to(begun(BESIDE, ((("move", ("b", "b"), ("a", "a")),),)), 0, "third")
        top, _, three, four, _, eight = BESIDE[0]
        two = (2, "drawer", (("a", 3),))
        played_on(self, state, [
            ((0, "locks", 8), {
                "row": row(0, "checks", 0, (2, 7), 1, due), "locks": ((2, 0), (7, 0), (8, 0)),
            }),
            ((0, "empty", 8), {"row": row(0, "writes", 0, (2, 7), 1, due)}),
            ((0, "journal", due), {"row": row(0, "turns", 0, (2, 7), 1, due), "journal": due}),
            ((0, "odd", 1), {"row": row(0, "outs", 0, (2, 7), 1, due), "turn": 1}),
            ((0, "out", 2, "b"), {
                "row": row(0, "ins", 0, (2, 7), 1, due), "nodes": (top, two, three, four, BESIDE[0][4], eight),
            }),
            ((0, "in", 7, "a"), {
                "row": row(0, "ends", 0, (2, 7), 1, due),
                "nodes": (top, two, three, four, (7, "drawer", (("a", 4), ("c", 3)))),
            }),
            ((0, "told", 0, ("moved", 4)), {
                "row": through(1), "turn": 2, "journal": None, "locks": (), "key": None,
            }),
        ])

    def test_full_in_checks(self):
        due = ("move", 0, "a", 0, "b", 7, 2)
        state = stepped_to(begun(BESIDE, ((("move", ("a",), ("b",)), ("look", ())),)), 0, "third")
        played_on(self, state, [
            ((0, "locks", 2), {"row": row(0, "checks", 0, (0, 0), 0, due), "locks": ((0, 0), (2, 0))}),
            ((0, "told", 0, ("full",)), {"row": new(1), "locks": (), "key": None}),
        ])

    def test_whether_it_is_full_is_as_it_is_in_checks(self):
        deed = ("move", ("b", "b"), ("a", "a"))
        state = stepped_to(begun(BESIDE, ((deed,), (("make", ("a", "a", "x"), "sheet"),))), 0, "third")
        # Another hand stood in the drawer ahead of the move's locks; T is filled, and the move waits for it.
        state = stepped_to(state, 1, "commits")
        self.assertEqual(step(state, 0)[1], (0, "waits", 8, 1))
        state, _ = told_alone(state, 1)
        self.assertEqual(told_alone(state, 0)[1][1:], [(0, "told", 0, ("full",))])
        full = (((0, "drawer", (("a", 1), ("b", 2))), (1, "drawer", ()), (2, "drawer", (("c", 3),)), (3, "sheet", ())), 4)
        state = begun(full, ((("move", ("a",), ("b",)),), (("drop", ("b", "c")),)))
        state, _ = told_alone(stepped_to(state, 0, "third"), 1)
        self.assertEqual(told_alone(state, 0)[1][-1], (0, "told", 0, ("moved", 1)))

    def test_what_others_make_meanwhile_stays(self):
        # The NODES of the disk are changed one by one, not put back as they were found.
        state = stepped_to(begun(BESIDE, ((("move", ("b", "a"), ("c",)),), (("make", ("a", "x"), "sheet"),))), 0, "turns")
        state, _ = told_alone(state, 1)
        state, events = told_alone(state, 0)
        self.assertEqual(events[-1], (0, "told", 0, ("moved", 3)))
        self.assertEqual(tree_of(state), modelled(modelled(BESIDE, ("make", ("a", "x"), "sheet"))[0], (
            "move", ("b", "a"), ("c",)))[0])

    def test_a_void_tree(self):
        played(self, EMPTY_TREE, ((("swap", ("a",), ("b",)),),), [
            ((0, "key"), {"key": 0}),
            ((0, "begin", 0, 0), {"row": row(0, "locks", 0, (0, 0))}),
            ((0, "locks", 0), {"row": row(0, "looks", 0, (0, 0)), "locks": ((0, 0),)}),
            ((0, "told", 0, ("none", 0, 0)), {"row": through(1), "locks": (), "key": None}),
        ])


if __name__ == "__main__":
    unittest.main()
