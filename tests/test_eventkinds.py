"""[73]: whether a thing is an EVENT, of any thing."""

import copy
import unittest

from drawerways.eventkinds import is_event
from drawerways.runs import until_quiet
from drawerways.states import begun

from draws import drawn
from events import BEYOND, EVENTS, event
from things import HUGE, NEVER, changed, deep, spoiled, with_part

# Things near EVENTS that are none, and some that look odd but are ones.
NO_EVENTS = [
    (), (0,), ("rests",), ("rests", 0), (0, "rest"), (0, "rests", 0), (0, "rests", None), (0, "Rests"), (0, "key", 0),
    (0, None), (0, 0), (0, ()), (0, ["rests"]), (0, True), (True, "rests"), (-1, "rests"), (None, "rests"),
    ("0", "rests"), [0, "rests"], ((0, "rests"),), (0, "waits"), (0, "waits", "key"), (0, "waits", "dead", 1),
    (0, "waits", "key", None), (0, "waits", None, 1), (0, "waits", "key", True), (0, "waits", True, 1),
    (0, "waits", ["key"], 1), (0, "waits", "key", 1, 1), (0, "again", 0, "key"), (0, "again", "turn", 0),
    (0, "again", 0), (0, "again", 0, None), (0, "again", 0, 0), (0, "again", -1, "turn"), (0, "begin", 0),
    (0, "begin", 0, None), (0, "begin", 0, 0, 0), (0, "begin", None, 0), (0, "walk", None, None), (0, "walk", 0),
    (0, "walk", 0, -1), (0, "walk", 0, "a"), (0, "walk", 0, False), (0, "locks"), (0, "locks", None), (0, "locks", 1, 2),
    (0, "finds", None, 3), (0, "finds", None, None), (0, "finds", 3), (0, "empty", None), (0, "empty"), (0, "odd", None),
    (0, "odd", -1), (0, "out", 0, "B"), (0, "out", 0), (0, "out", "b", 0), (0, "in", 0, None), (0, "in", 0, ""),
    (0, "in", None, "a"), (0, "in", 0, "abcdefghi"), (0, "in", 0, 1), (0, "look", 0), (0, "walks", 0, 1), (0, "", 0),
    (0, "told", 0), (0, "told", ("full",)), (0, "told", None, ("full",)), (0, "told", 0, "full"), (0, "told", 0, None),
    (0, "told", 0, ("full",), 0), (0, "told", 0, ["full"]), (0, "journal"), (0, "journal", None), (0, "journal", ()),
]

NO_TOLD = [
    (), ("found",), ("found", "sheet"), ("found", "sheets", 1), ("found", 1, "sheet"), ("found", "sheet", None),
    ("found", "sheet", True), ("found", "sheet", 1, 1), ("names",), ("names", None), ("names", "a"), ("names", ["a"]),
    ("names", ("b", "a")), ("names", ("a", "a")), ("names", ("A",)), ("names", (1,)), ("names", ("a",), ("b",)),
    ("names", "a", "b"), ("names", (("a",),)), ("none",), ("none", None), ("none", -1), ("none", True), ("none", 1, 2),
    ("none", 1, True), ("none", 1, False), ("none", 1, None), ("none", 1, 0, 0), ("none", "1"), ("sheet",), ("sheet", 1, 2),
    ("sheet", 0, HUGE), ("sheet", 1, -1), ("there", 0), ("made",), ("made", None), ("made", 1, 1), ("made", "sheet"),
    ("full", 1), ("full", ()), ("dropped",), ("dropped", -1), ("kind", "sheet"), ("linked", 1, 2), ("same", 1),
    ("inside", 0), ("moved",), ("moved", 1, None), ("swapped", 1), ("swapped", 1, None), ("swapped", 1, 2, 3),
    ("look", 0), ("drawer", 0), ("Full",), (0,), (None,), (["full"],), ("turn",), ("dead",), "full",
]

NO_JOURNALS = [
    (), ("move",), ("move", 0, "b", 1, "c", 3), ("move", 0, "b", 1, "c", 3, None, None), ("link", 0, "b", 1, "c", 3, None),
    ("drop", 0, "b", 1, "c", 3, None), (None, 0, "b", 1, "c", 3, None), (["move"], 0, "b", 1, "c", 3, None),
    ("move", None, "b", 1, "c", 3, None), ("move", 0, None, 1, "c", 3, None), ("move", 0, "b", None, "c", 3, None),
    ("move", 0, "b", 1, None, 3, None), ("move", 0, "b", 1, "c", None, None), ("move", 0, "b", 1, "c", 3, -1),
    ("move", True, "b", 1, "c", 3, None), ("move", 0, "b", 1, "c", 3, False), ("move", 0, "B", 1, "c", 3, None),
    ("move", 0, 1, 1, "c", 3, None), ["move", 0, "b", 1, "c", 3, None], ("move", "b", 0, "c", 1, 3, None),
]


class Events(unittest.TestCase):
    def test_each_form(self):
        for thing in list(EVENTS.values()) + BEYOND:
            self.assertIs(is_event(thing), True, thing)
            self.assertTrue(event(thing))

    def test_things_near(self):
        for thing in NEVER + NO_EVENTS + [0, 1, "a", "0 rests", deep(40, (0, "rests")), deep(40, "rests", list)]:
            self.assertIs(is_event(thing), False, thing)
            self.assertFalse(event(thing))
        for thing in NO_TOLD + NEVER:
            self.assertIs(is_event((0, "told", 0, thing)), False, thing)
        for thing in NO_JOURNALS + NEVER + [("full",)]:
            self.assertIs(is_event((0, "journal", thing)), False, thing)

    def test_each_word_with_each_rest(self):
        words = sorted({thing[1] for thing in EVENTS.values()}) + ["", "look", "move", "found", "names"]
        rests = sorted({thing[2:] for thing in EVENTS.values()}, key=repr)
        right = 0
        for word in words:
            for rest in rests:
                thing = (5, word) + rest
                self.assertIs(is_event(thing), event(thing), thing)
                right += event(thing)
        self.assertGreater(right, len(EVENTS))

    def test_spoiled(self):
        for thing in list(EVENTS.values()):
            for other in spoiled(thing):
                self.assertIs(is_event(other), event(other), other)
            for other in changed(thing):
                self.assertIs(is_event(other), event(other), other)

    def test_truths_are_no_numbers(self):
        for thing in EVENTS.values():
            for place, part in enumerate(thing):
                if type(part) is int:
                    for odd in (True, False, -1, -HUGE, None, "1", [1], (1,)):
                        other = with_part(thing, place, odd)
                        self.assertIs(is_event(other), event(other), other)

    def test_what_runs_tell(self):
        for tree, hands, schedule in drawn(100, first=640):
            _, log, _ = until_quiet(begun(tree, hands))
            for thing in log:
                self.assertIs(is_event(thing), True, thing)

    def test_by_name_and_nothing_is_changed(self):
        self.assertIs(is_event(thing=(0, "rests")), True)
        for thing in NEVER + NO_EVENTS + [[0, ["rests"]]]:
            kept = copy.deepcopy(thing)
            is_event(thing)
            self.assertEqual(repr(thing), repr(kept))


if __name__ == "__main__":
    unittest.main()
