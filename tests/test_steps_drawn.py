"""[51] to [57], [60]: drawn runs held step by step against a second reading; what holds behind each STEP."""

import collections
import unittest

from drawerways.runs import rounds
from drawerways.states import begun, is_quiet, tree_of
from drawerways.steps import step
from drawerways.trees import is_tree

from draws import drawn
from model import tree as is_tree_once_more
from rings import comes_back
from scripts import stepped, stepped_through
from things import BESIDE, CHAIN, DEEP, SMALL
from world import World

WORDS = {
    "rests", "waits", "again", "told", "key", "begin", "walk", "locks", "finds", "empty", "journal", "odd", "out", "in",
}

PHASES = {
    "new", "walks", "last", "locks", "commits", "lower", "empties", "looks", "third", "checks", "writes", "turns",
    "outs", "ins", "ends", "through",
}

# Small enough that all STATES to which any SCHEDULE comes are looked at.
SMALL_SCENES = [
    (SMALL, ((("move", ("b",), ("a", "c")),), (("drop", ("a",)),), (("look", ("a", "c")),))),
    (SMALL, ((("swap", ("a",), ("b",)), ("drop", ("b",))), (("make", ("a", "x"), "drawer"), ("list", ("a",))))),
    (CHAIN, ((("move", ("a", "a"), ("c",)),), (("drop", ("a", "a", "a", "a")),), (("make", ("a", "a", "x"), "sheet"),))),
    (CHAIN, ((("move", ("a", "a", "a"), ("a", "c")),), (("swap", ("a", "a"), ("b",)),), (("list", ("a", "a")),))),
    (BESIDE, ((("move", ("a",), ("b", "z")),), (("move", ("b",), ("a", "z")),), (("drop", ("b", "b")),))),
    (BESIDE, ((("move", ("a", "a"), ("b", "b")),), (("drop", ("a", "a")),), (("make", ("b", "b", "x"), "sheet"),))),
    (BESIDE, ((("link", ("a", "c"), ("b", "b", "x")),), (("drop", ("b", "b")), ("make", ("b", "b"), "drawer")))),
    (DEEP, ((("drop", ("a", "a", "a")),), (("move", ("b",), ("a", "a", "a")),), (("link", ("c",), ("b", "x")),))),
]


class AsTheWorldHasIt(unittest.TestCase):
    def test_each_step(self):
        seen, phases, told = collections.Counter(), collections.Counter(), set()
        for tree, hands, schedule in drawn(1500):
            state, world = begun(tree, hands), World(tree, hands)
            self.assertEqual(state, world.state())
            while not is_quiet(state):
                for hand in schedule + tuple(range(len(hands))):
                    if is_quiet(state) and seen["rests"] > 900:
                        break
                    phases[state[5][hand][1]] += 1
                    state, event = step(state, hand)
                    self.assertEqual(event, world.step(hand))
                    self.assertEqual(state, world.state(), event)
                    seen[event[1]] += 1
                    if event[1] in ("again", "told"):
                        told.add((hands[hand][event[2]][0], event[3] if event[1] == "again" else event[3][0]))
        self.assertEqual(set(seen), WORDS)
        self.assertEqual(set(phases), PHASES)
        self.assertEqual(told & {(word, why) for word in ("look", "list", "make", "drop") for why in ("turn",)}, {
            ("look", "turn"), ("list", "turn"), ("make", "turn"), ("drop", "turn")})
        for word in ("link", "move", "swap"):
            self.assertIn((word, "dead"), told)
        for word, words in {
            "look": ("found", "none", "sheet"), "list": ("names", "none", "sheet"),
            "make": ("made", "there", "none", "sheet"), "drop": ("dropped", "full", "none", "sheet"),
            "link": ("linked", "kind", "there", "none", "sheet"),
            "move": ("moved", "same", "inside", "kind", "full", "none", "sheet"),
            "swap": ("swapped", "same", "inside", "none", "sheet"),
        }.items():
            self.assertTrue({(word, one) for one in words} <= told, word)


class Behind(unittest.TestCase):
    def holds(self, state):
        """What [60] says of each STATE."""
        hands, (nodes, made, _), locks, key, turn, rows = state
        held = [node for node, _ in locks]
        self.assertEqual(held, sorted(set(held)))
        self.assertTrue(all(rows[hand][1] not in ("new", "walks", "last", "through") for _, hand in locks))
        if key is not None:
            self.assertIn(hands[key][rows[key][0]][0], ("link", "move", "swap"))
        moving = [hand for hand, row in enumerate(rows) if row[1] in ("outs", "ins", "ends")]
        self.assertEqual(moving, [key] if turn % 2 else [])
        if turn % 2 == 0:
            self.assertIs(is_tree((nodes, made)), True)
            self.assertTrue(is_tree_once_more((nodes, made)))
            self.assertEqual(tree_of(state), (nodes, made))
        waits = {}
        for hand in range(len(hands)):
            _, event = step(state, hand)
            if event[1] == "waits":
                waits[hand] = event[3]
        self.assertFalse(comes_back(waits), state)
        return waits

    def test_all_states_of_small_scenes(self):
        odd = waiting = 0
        for tree, hands in SMALL_SCENES:
            state = begun(tree, hands)
            met, queue = {state}, [state]
            while queue:
                state = queue.pop()
                waiting += len(self.holds(state)) > 1
                odd += state[4] % 2
                # Somebody gets on, until all are through.
                others = {step(state, hand)[0] for hand in range(len(hands))} - {state}
                self.assertEqual(not others, is_quiet(state))
                queue += others - met
                met |= others
            self.assertGreater(len(met), 100)
        self.assertGreater(odd, 100)
        self.assertGreater(waiting, 50)

    def test_drawn_runs(self):
        for tree, hands, schedule in drawn(150, first=9000):
            state = begun(tree, hands)
            for hand in schedule:
                self.holds(state)
                state, _ = step(state, hand)

    def test_each_again_has_its_cause(self):
        again = collections.Counter()
        for tree, hands, schedule in drawn(1500, first=3000):
            begins = {}
            _, log = stepped_through(begun(tree, hands), schedule)
            for n, event in enumerate(log):
                if event[1] == "begin":
                    begins[event[0]] = n
                elif event[1] == "again":
                    between = [other for other in log[begins[event[0]]:n] if other[0] != event[0]]
                    if event[3] == "turn":
                        causes = [other for other in between if other[1] == "odd"]
                    else:
                        causes = [other for other in between if other[1] == "told" and other[3][0] == "dropped"]
                    self.assertTrue(causes, (n, event))
                    again[event[3]] += 1
        self.assertGreater(min(again["turn"], again["dead"]), 10)

    def test_all_through_within_the_told_number_of_rounds(self):
        for tree, hands, schedule in drawn(300, first=5000):
            many = 0
            state = begun(tree, hands)
            deeds = [deed for own in hands for deed in own]
            longest = max([len(part) for deed in deeds for part in deed[1:] if type(part) is tuple], default=0)
            while not is_quiet(state):
                # Each ROUND in another order.
                order = sorted(range(len(hands)), key=lambda hand: schedule[(7 * many + hand) % len(schedule)])
                state, _ = stepped(state, order)
                many += 1
            self.assertLessEqual(many, rounds(deeds=len(deeds), hands=len(hands), names=longest))


if __name__ == "__main__":
    unittest.main()
