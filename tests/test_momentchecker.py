"""[65]: the checker of MOMENT PAPERS."""

import collections
import copy
import random
import unittest

from drawerways.errors import NoPaper, PaperError
from drawerways.momentchecker import lets_moments
from drawerways.runmoments import moments_of
from drawerways.runs import run
from drawerways.states import begun

from draws import drawn
from logged import logged, results, spans
from model import Model, number
from things import HUGE, NEVER, SMALL, changed, deep, just_tuples

# 0 makes a drawer and moves a sheet into it; 1 looks for that; 3 lists, and drops.
HANDS = (
    (("make", ("c",), "drawer"), ("move", ("b",), ("c", "b"))),
    (("look", ("c",)),),
    (),
    (("list", ()), ("drop", ("a",))),
)

LOG = run(begun(SMALL, HANDS), (1, 0, 0, 0, 1, 3, 3, 3, 1, 0, 0, 3, 0, 0, 0, 0, 0, 0, 3, 0, 0, 0, 0, 3, 3, 3, 3, 3, 3, 3))[1]

SPANS = (((0, 0), 1, 3), ((0, 1), 9, 21), ((1, 0), 0, 8), ((3, 0), 5, 7), ((3, 1), 11, 29))

PAPER = (((0, 0), 3, 1), ((1, 0), 4, 1), ((3, 0), 7, 1), ((0, 1), 21, 1), ((3, 1), 29, 1))


def why_no_moments(tree, hands, log, thing):
    """(word, at) that is due for a thing, None where it is a MOMENT PAPER."""
    if type(thing) is not tuple:
        return "shape", -1
    for entry in thing:
        if type(entry) is not tuple or len(entry) != 3 or type(entry[0]) is not tuple or len(entry[0]) != 2:
            return "shape", -1
        if not all(number(part) for part in entry[0] + entry[1:]) or entry[2] not in (0, 1):
            return "shape", -1
    span_by = {task: range(begin, end + 1) for task, begin, end in spans(log)}
    told_by, model = dict(results(log)), Model(tree)
    for i, (task, n, side) in enumerate(thing):
        ahead = thing[:i]
        if task not in span_by or task in [entry[0] for entry in ahead]:
            return "task", i
        if n not in span_by[task]:
            return "span", i
        if ahead and (n, side) < ahead[-1][1:]:
            return "falls", i
        if task[1] != len([entry for entry in ahead if entry[0][0] == task[0]]):
            return "hand", i
        if model.do(hands[task[0]][task[1]]) != told_by[task]:
            return "told", i
    return ("few", -1) if len(thing) != len(span_by) else None


class Moments(unittest.TestCase):
    def refused(self, word, at, thing, tree=SMALL, hands=HANDS, log=LOG):
        with self.assertRaises(NoPaper) as caught:
            lets_moments(tree, hands, log, thing)
        self.assertIs(type(caught.exception), NoPaper)
        self.assertIsInstance(caught.exception, PaperError)
        self.assertEqual((caught.exception.word, caught.exception.at), (word, at), thing)
        self.assertIs(type(caught.exception.at), int)

    def lets(self, thing, tree=SMALL, hands=HANDS, log=LOG):
        found = lets_moments(tree, hands, log, thing)
        self.assertEqual(found, len(thing))
        self.assertIs(type(found), int)

    def with_entry(self, place, entry):
        return PAPER[:place] + (entry,) + PAPER[place + 1:]

    def test_the_run(self):
        self.assertEqual(spans(LOG), SPANS)
        self.assertEqual(moments_of(SMALL, HANDS, LOG), PAPER)
        self.lets(PAPER)

    def test_others_that_are(self):
        # At other MOMENTS of the SPANS; in another order where none is AHEAD of the other.
        self.lets((((0, 0), 1, 0), ((1, 0), 1, 0), ((3, 0), 5, 0), ((0, 1), 9, 0), ((3, 1), 11, 0)))
        self.lets((((0, 0), 3, 1), ((3, 0), 5, 0), ((1, 0), 8, 1), ((3, 1), 11, 0), ((0, 1), 11, 0)))
        self.lets((((0, 0), 1, 1), ((1, 0), 2, 0), ((3, 0), 7, 1), ((0, 1), 20, 1), ((3, 1), 21, 0)))

    def test_void(self):
        self.lets((), log=())
        self.lets((), log=(), hands=())
        self.lets((), log=LOG[:3])
        self.refused("few", -1, ())
        self.refused("task", 0, PAPER, log=())

    def test_shape(self):
        for thing in NEVER + [list(PAPER), 0, 1, HUGE, "a", "moments", deep(40, PAPER, list), PAPER[0], (PAPER,)]:
            if thing != ():
                self.refused("shape", -1, thing)
        odd = [
            ((0, 0), 3), ((0, 0), 3, 1, 1), ((0, 0), 3, 2), ((0, 0), 3, -1), ((0, 0), 3, True), ((0, 0), 3, False),
            ((0, 0), 3, None), ((0, 0), True, 1), ((0, 0), -1, 1), ((0, 0), "3", 1), ((0, 0), None, 1), ((0, 0, 0), 3, 1),
            ((0,), 3, 1), ((False, 0), 3, 1), ((0, False), 3, 1), ((-1, 0), 3, 1), ([0, 0], 3, 1), (0, 3, 1), [(0, 0), 3, 1],
            ((0, 0), [3], 1), ((0, 0), 3, [1]), ((0, 0), 3, "1"), ((0, 0), 3, HUGE), (((0, 0), 3), 1), "a", None, (),
        ]
        for entry in odd:
            for place in range(len(PAPER)):
                self.refused("shape", -1, self.with_entry(place, entry))
            # Ahead of all else that is wrong.
            self.refused("shape", -1, (((9, 9), 0, 0), entry))
            self.refused("shape", -1, PAPER + (entry,))

    def test_task(self):
        for place in range(len(PAPER)):
            for task in ((2, 0), (0, 2), (4, 0), (1, 1), (HUGE, 0), (0, HUGE)):
                self.refused("task", place, self.with_entry(place, (task,) + PAPER[place][1:]))
            for other in PAPER[:place]:
                self.refused("task", place, self.with_entry(place, other))
                self.refused("task", place, self.with_entry(place, (other[0], HUGE, 0)))
        self.refused("task", 5, PAPER + (PAPER[0],))
        # One that isn't THROUGH yet.
        self.refused("task", 3, PAPER, log=LOG[:21])
        self.refused("task", 0, PAPER[3:], log=LOG[:21])

    def test_span(self):
        for place, (task, _, _) in enumerate(PAPER):
            begin, end = [span[1:] for span in SPANS if span[0] == task][0]
            for n in (begin - 1, end + 1, HUGE):
                for side in (0, 1):
                    if n >= 0:
                        self.refused("span", place, self.with_entry(place, (task, n, side)))
        self.refused("span", 1, (((0, 0), 3, 1), ((1, 0), 9, 0)))
        # Ahead of "falls" and of "hand".
        self.refused("span", 3, self.with_entry(3, ((0, 1), 1, 0)))
        self.refused("span", 0, (((0, 1), 3, 1),))

    def test_falls(self):
        self.refused("falls", 1, (((0, 0), 3, 1), ((1, 0), 3, 0)))
        self.refused("falls", 1, (((0, 0), 3, 1), ((1, 0), 2, 1)))
        self.refused("falls", 1, (((0, 0), 3, 0), ((1, 0), 0, 1)))
        self.refused("falls", 2, self.with_entry(1, ((1, 0), 8, 0)))
        self.refused("falls", 4, self.with_entry(4, ((3, 1), 21, 0)))
        # Ahead of "hand" and of "told".
        self.refused("falls", 1, (((0, 0), 3, 1), ((1, 0), 0, 0), ((3, 0), 7, 1)))

    def test_hand(self):
        self.refused("hand", 0, (((0, 1), 9, 0),))
        self.refused("hand", 2, (((0, 0), 3, 1), ((1, 0), 4, 1), ((3, 1), 29, 1)))
        self.refused("hand", 0, PAPER[3:])
        # Ahead of "told".
        self.refused("hand", 1, (((0, 0), 3, 1), ((3, 1), 29, 1)))

    def test_told(self):
        self.refused("told", 0, (((1, 0), 0, 1), ((0, 0), 3, 1)))
        self.refused("told", 0, (((3, 0), 7, 1),))
        self.refused("told", 1, (((0, 0), 3, 1), ((1, 0), 4, 1)), log=other_told((1, 0), ("none", 0)))
        self.refused("told", 4, PAPER, log=other_told((3, 1), ("full",)))
        self.refused("told", 0, PAPER, tree=(SMALL[0], 9))

    def test_few(self):
        for many in range(5):
            self.refused("few", -1, PAPER[:many])
        self.refused("few", -1, PAPER[:2] + PAPER[3:4])
        self.refused("few", -1, PAPER[:1] + PAPER[2:])

    def test_the_first_of_several(self):
        self.refused("task", 0, (((9, 0), HUGE, 0), ((0, 1), 0, 0)))
        self.refused("span", 0, (((0, 1), 0, 0), ((9, 0), HUGE, 0)))
        self.refused("told", 0, (((1, 0), 0, 0), ((9, 0), 1, 1)))
        self.refused("task", 1, (((0, 0), 3, 1), ((9, 0), 1, 0)))

    def test_near_right_ones(self):
        words = collections.Counter()
        for tree, hands, log in [(SMALL, HANDS, LOG), (SMALL, HANDS, LOG[:16])] + list(drawn_runs(12)):
            right = moments_of(tree, hands, log)
            self.lets(right, tree, hands, log)
            things = list(changed(right))
            for thing in random.Random(len(log)).sample(things, min(len(things), 500)):
                self.as_due(tree, hands, log, thing, words)
        self.assertEqual(set(words), {"shape", "task", "span", "falls", "hand", "told", "few", None})

    def test_entries_drawn(self):
        words, draw = collections.Counter(), random.Random(5)
        for tree, hands, log in drawn_runs(60):
            order = spans(log)
            for _ in range(20):
                thing = sorted(
                    ((task, draw.randrange(begin, end + 1), draw.randrange(2)) for task, begin, end in order),
                    key=lambda entry: entry[1:] if draw.random() < 0.98 else (0, 0))
                self.as_due(tree, hands, log, tuple(thing), words)
        self.assertTrue({"falls", "told", None} <= set(words), words)

    def as_due(self, tree, hands, log, thing, words):
        due = why_no_moments(tree, hands, log, thing)
        words[due and due[0]] += 1
        if due is None:
            self.lets(thing, tree, hands, log)
        else:
            self.refused(due[0], due[1], thing, tree, hands, log)

    def test_by_name(self):
        self.assertEqual(lets_moments(thing=PAPER, log=LOG, hands=HANDS, tree=SMALL), 5)

    def test_nothing_is_changed(self):
        for thing in NEVER + [PAPER, list(PAPER), (list(PAPER[0]),)]:
            kept = copy.deepcopy((thing, SMALL, HANDS, LOG))
            try:
                lets_moments(SMALL, HANDS, LOG, thing)
            except NoPaper as refused:
                self.assertTrue(just_tuples((refused.word, refused.at)))
            self.assertEqual(repr((thing, SMALL, HANDS, LOG)), repr(kept))


def other_told(task, told):
    """The LOG in which one TASK told something else."""
    return tuple(event[:3] + (told,) if event[1] == "told" and event[:1] + event[2:3] == task else event for event in LOG)


def drawn_runs(many):
    for tree, hands, schedule in drawn(many, first=31):
        yield tree, hands, logged(tree, hands, schedule[:60])


if __name__ == "__main__":
    unittest.main()
