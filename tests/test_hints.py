"""[67], [68]: HINTS: what WAYS told, remembered."""

import copy
import random
import unittest

from drawerways.errors import NoStep, RunError
from drawerways.hints import KEPT, Hints
from drawerways.runs import run
from drawerways.states import begun
from drawerways.steps import step

from draws import drawn
from model import Model, modelled
from scripts import stepped_to, told_alone
from things import BESIDE, CHAIN, DEEP, EMPTY_TREE, HUGE, NEVER, SMALL, TREES, deep, just_tuples, ways


class Once:
    """The document's words on HINTS once more: a list of what was remembered, the one asked least lately first."""

    def __init__(self, most):
        self.most, self.kept, self.many = most, [], 0

    def ask(self, state, way):
        tree, turn = state[1][:2], state[4]
        told = modelled(tree, ("look", way))[1]
        nodes, _ = Model(tree).walk(way)
        rows = [row for node in nodes for row in tree[0] if row[0] == node]
        mine = [kept for kept in self.kept if kept[0] == way]
        self.many += mine == [(way, turn, rows)]
        self.kept = [kept for kept in self.kept if kept[0] != way] + [(way, turn, rows)]
        self.kept = self.kept[-self.most:] if self.most else []
        return told


def still(tree):
    return begun(tree, ())


class Asked(unittest.TestCase):
    def asks(self, hints, state, way, told, hits, many):
        """What is told, how many HITS there were by then, how many WAYS are remembered."""
        found = hints.ask(state, way)
        self.assertEqual(found, told)
        self.assertTrue(just_tuples(found))
        self.assertEqual((hints.hits(), len(hints)), (hits, many))
        self.assertIs(type(hints.hits()), int)

    def test_fresh(self):
        self.assertEqual(KEPT, 4)
        for hints in (Hints(), Hints(most=0), Hints(most=HUGE)):
            self.assertEqual((hints.hits(), len(hints)), (0, 0))
            self.assertIs(hints.knows(()), False)

    def test_asked_again(self):
        hints, state = Hints(), still(SMALL)
        self.asks(hints, state, ("a",), ("found", "drawer", 1), 0, 1)
        self.asks(hints, state, ("a",), ("found", "drawer", 1), 1, 1)
        self.asks(hints, state, ("x", "y"), ("none", 0), 1, 2)
        self.asks(hints, state, ("b", "y"), ("sheet", 1), 1, 3)
        self.asks(hints, state, ("x", "y"), ("none", 0), 2, 3)
        self.asks(hints, state, (), ("found", "drawer", 0), 2, 4)
        self.asks(hints, state, (), ("found", "drawer", 0), 3, 4)
        self.asks(hints, state, ("b", "y"), ("sheet", 1), 4, 4)

    def test_the_one_asked_least_lately_goes(self):
        hints, state = Hints(), still(BESIDE)
        for many, way in enumerate((("a",), ("b",), ("c",), ("d",))):
            hints.ask(state, way)
            self.assertEqual(len(hints), many + 1)
        self.asks(hints, state, ("a",), ("found", "drawer", 7), 1, 4)
        self.asks(hints, state, ("e",), ("none", 0), 1, 4)
        self.assertEqual([hints.knows((name,)) for name in "abcde"], [True, False, True, True, True])
        self.asks(hints, state, ("b",), ("found", "drawer", 2), 1, 4)
        self.assertEqual([hints.knows((name,)) for name in "abcde"], [True, True, False, True, True])
        # One looked up anew is asked lately, too.
        other = still(CHAIN)
        self.asks(hints, other, ("d",), ("none", 0), 1, 4)
        self.asks(hints, other, ("c",), ("none", 0), 1, 4)
        self.assertEqual([hints.knows((name,)) for name in "abcde"], [False, True, True, True, True])

    def test_most(self):
        hints, state = Hints(most=0), still(SMALL)
        for _ in range(3):
            self.asks(hints, state, ("a",), ("found", "drawer", 1), 0, 0)
        hints = Hints(most=1)
        self.asks(hints, state, ("a",), ("found", "drawer", 1), 0, 1)
        self.asks(hints, state, ("a",), ("found", "drawer", 1), 1, 1)
        self.asks(hints, state, ("b",), ("found", "sheet", 3), 1, 1)
        self.asks(hints, state, ("a",), ("found", "drawer", 1), 1, 1)
        hints = Hints(most=HUGE)
        for many, way in enumerate(ways("abc", 3)):
            hints.ask(state, way)
            self.assertEqual(len(hints), many + 1)
        with self.assertRaises(TypeError):
            Hints(3)

    def test_another_turn(self):
        hints = Hints()
        state = begun(BESIDE, ((("move", ("b", "a"), ("b", "c")), ("move", ("b", "c"), ("b", "a"))),))
        self.asks(hints, state, ("a", "a"), ("found", "drawer", 8), 0, 1)
        later, _ = told_alone(state, 0)
        self.assertEqual(later[4], 2)
        self.asks(hints, later, ("a", "a"), ("found", "drawer", 8), 0, 1)
        self.asks(hints, later, ("a", "a"), ("found", "drawer", 8), 1, 1)
        # Back at the elder TURN: it was remembered in the place of that one.
        self.asks(hints, state, ("a", "a"), ("found", "drawer", 8), 1, 1)

    def test_entries_otherwise(self):
        hints = Hints()
        state = begun(SMALL, ((("make", ("a", "x"), "sheet"), ("make", ("c",), "sheet"), ("drop", ("c",))),))
        self.asks(hints, state, ("a", "x"), ("none", 1), 0, 1)
        self.asks(hints, state, ("b",), ("found", "sheet", 3), 0, 2)
        made, _ = told_alone(state, 0)
        self.assertEqual(made[4], 0)
        self.asks(hints, made, ("a", "x"), ("found", "sheet", 4), 0, 2)
        # What stands elsewhere is not asked for.
        self.asks(hints, made, ("b",), ("found", "sheet", 3), 1, 2)
        more, _ = told_alone(made, 0)
        self.asks(hints, more, ("b",), ("found", "sheet", 3), 1, 2)
        self.asks(hints, more, ("b",), ("found", "sheet", 3), 2, 2)

    def test_as_it_was_once_more(self):
        hints = Hints()
        state = begun(SMALL, ((("make", ("c",), "sheet"), ("drop", ("c",))),))
        self.asks(hints, state, ("b", "x"), ("sheet", 1), 0, 1)
        between, _ = told_alone(state, 0)
        behind, _ = told_alone(between, 0)
        self.asks(hints, behind, ("b", "x"), ("sheet", 1), 1, 1)
        self.asks(hints, between, ("b", "x"), ("sheet", 1), 1, 1)
        self.asks(hints, behind, ("b", "x"), ("sheet", 1), 1, 1)
        self.asks(hints, behind, ("b", "x"), ("sheet", 1), 2, 1)

    def test_the_entries_of_the_last_drawer(self):
        # Told is that it is a drawer; its ENTRIES have to be as they were all the same.
        hints = Hints()
        state = begun(SMALL, ((("make", ("a", "x"), "sheet"),),))
        hints.ask(state, ("a",))
        made, _ = told_alone(state, 0)
        self.asks(hints, made, ("a",), ("found", "drawer", 1), 0, 1)
        self.asks(hints, made, ("a",), ("found", "drawer", 1), 1, 1)

    def test_a_kind_otherwise(self):
        hints = Hints()
        drawer = still((((0, "drawer", (("a", 1),)), (1, "drawer", ())), 2))
        sheet = still((((0, "drawer", (("a", 1),)), (1, "sheet", ())), 2))
        self.asks(hints, drawer, ("a",), ("found", "drawer", 1), 0, 1)
        self.asks(hints, sheet, ("a",), ("found", "sheet", 1), 0, 1)
        self.asks(hints, sheet, ("a", "b"), ("sheet", 1), 0, 2)
        self.asks(hints, drawer, ("a", "b"), ("none", 1), 0, 2)

    def test_a_node_that_lives_no_more(self):
        hints = Hints()
        state = begun(SMALL, ((("drop", ("a",)), ("make", ("a",), "drawer")),))
        self.asks(hints, state, ("a", "x"), ("none", 1), 0, 1)
        gone, _ = told_alone(state, 0)
        self.asks(hints, gone, ("a", "x"), ("none", 0), 0, 1)
        anew, _ = told_alone(gone, 0)
        self.asks(hints, anew, ("a", "x"), ("none", 1), 0, 1)
        self.asks(hints, anew, ("a", "x"), ("none", 1), 1, 1)

    def test_states_of_two_runs_by_turns(self):
        hints, one, other = Hints(), still(BESIDE), still(DEEP)
        for hits in range(3):
            self.asks(hints, one, ("a",), ("found", "drawer", 7), 0, 1)
            self.asks(hints, other, ("a",), ("found", "drawer", 1), 0, 1)
        # Runs that have the same NODES on the WAY: whose STATE it is makes no difference.
        self.asks(hints, begun((DEEP[0], 30), ((("list", ()),),)), ("a",), ("found", "drawer", 1), 1, 1)

    def test_an_odd_turn(self):
        state = stepped_to(begun(SMALL, ((("move", ("b",), ("a", "c")),),)), 0, "outs")
        hints = Hints(most=2)
        hints.ask(still(SMALL), ("a",))
        hints.ask(still(SMALL), ("b",))
        for _ in range(3):
            for way in ((), ("a",), ("x", "y")):
                kept = copy.deepcopy(state)
                with self.assertRaises(NoStep) as caught:
                    hints.ask(state, way)
                self.assertIs(type(caught.exception), NoStep)
                self.assertIsInstance(caught.exception, RunError)
                self.assertEqual(caught.exception.word, "turn")
                self.assertEqual((hints.hits(), len(hints)), (0, 2))
                self.assertEqual(state, kept)
            state, _ = step(state, 0)
        # The refused ones were not asked.
        hints.ask(still(SMALL), ("c",))
        self.assertEqual([hints.knows((name,)) for name in "abc"], [False, True, True])

    def test_of_trees(self):
        for tree in TREES:
            hints = Hints(most=3)
            for way in ways("abx", 3) * 2:
                self.assertEqual(hints.ask(still(tree), way), modelled(tree, ("look", way))[1])

    def test_drawn(self):
        hits = 0
        for number, (tree, hands, schedule) in enumerate(drawn(80, first=4000)):
            draw = random.Random(number)
            most = draw.choice((0, 1, 2, 4, 9))
            hints, once = Hints(most=most), Once(most)
            asked = [tuple(draw.choice("abc") for _ in range(draw.randrange(4))) for _ in range(4)]
            states = [begun(tree, hands)]
            for hand in schedule:
                states.append(step(states[-1], hand)[0])
            still_ones = [state for state in states if state[4] % 2 == 0]
            for place in range(60):
                # Mostly on and on, now and then back to an elder STATE.
                at = place if draw.random() < 0.8 else draw.randrange(60)
                state, way = still_ones[min(at, len(still_ones) - 1)], draw.choice(asked)
                if draw.random() < 0.1:
                    known = way in [kept[0] for kept in once.kept]
                    once.kept = [kept for kept in once.kept if kept[0] != way]
                    self.assertIs(hints.forget(way), known)
                else:
                    self.assertEqual(hints.ask(state, way), once.ask(state, way))
                self.assertEqual((hints.hits(), len(hints)), (once.many, len(once.kept)))
                for other in asked:
                    self.assertIs(hints.knows(other), other in [kept[0] for kept in once.kept])
            hits += hints.hits()
        self.assertGreater(hits, 500)


class KnowsAndForget(unittest.TestCase):
    def test_any_thing(self):
        hints = Hints()
        for way in ((), ("a",), ("a", "b")):
            hints.ask(still(SMALL), way)
        for thing in NEVER + [0, 1, HUGE, "a", ["a"], [], ["a", "b"], ("a", "b", "c"), ("A",), (("a",),), deep(40, (), list), [()]]:
            kept = repr(thing)
            self.assertIs(hints.knows(thing), False, thing)
            self.assertIs(hints.forget(thing), False, thing)
            self.assertEqual(repr(thing), kept)
        self.assertEqual(len(hints), 3)
        self.assertTrue(hints.knows(()) and hints.knows(("a",)) and hints.knows(("a", "b")))

    def test_forget(self):
        hints, state = Hints(), still(SMALL)
        hints.ask(state, ("a",))
        hints.ask(state, ("a",))
        hints.ask(state, ("b",))
        self.assertIs(hints.forget(("a",)), True)
        self.assertEqual((hints.hits(), len(hints)), (1, 1))
        self.assertIs(hints.knows(("a",)), False)
        self.assertIs(hints.knows(("b",)), True)
        self.assertIs(hints.forget(("a",)), False)
        self.assertEqual((hints.hits(), len(hints)), (1, 1))
        self.assertEqual(hints.ask(state, ("a",)), ("found", "drawer", 1))
        self.assertEqual((hints.hits(), len(hints)), (1, 2))
        self.assertIs(hints.forget(thing=("b",)), True)
        self.assertIs(hints.knows(thing=("b",)), False)

    def test_a_way_asked_with_another_tuple(self):
        hints, state = Hints(), still(SMALL)
        hints.ask(state, tuple(["a", "x"]))
        self.assertIs(hints.knows(tuple(list("ax"))), True)
        self.assertEqual(hints.ask(way=tuple("ax"), state=state), ("none", 1))
        self.assertEqual(hints.hits(), 1)

    def test_two_know_nothing_of_one_another(self):
        one, other = Hints(), Hints()
        one.ask(still(SMALL), ("a",))
        self.assertEqual((len(other), other.knows(("a",))), (0, False))
        other.ask(still(EMPTY_TREE), ("a",))
        self.assertEqual(one.ask(still(SMALL), ("a",)), ("found", "drawer", 1))
        self.assertEqual((one.hits(), other.hits()), (1, 0))

    def test_nothing_handed_in_is_changed(self):
        state, _ = run(begun(DEEP, ((("move", ("b",), ("a", "d")),),)), (0,) * 4)
        kept = copy.deepcopy(state)
        hints = Hints()
        for way in ways("ab", 3):
            hints.ask(state, way)
        self.assertEqual(repr(state), repr(kept))


if __name__ == "__main__":
    unittest.main()
