"""[27]: the checker of SERIAL PAPERS."""

import copy
import unittest
from itertools import permutations

from drawerways.errors import NoPaper, PaperError
from drawerways.serialchecker import lets_serial
from drawerways.tasks import in_order
from drawerways.trees import EMPTY

from things import HUGE, NEVER, SMALL, TREES, deep

HANDS = (
    (("make", ("c",), "drawer"), ("move", ("b",), ("c", "b"))),
    (("look", ("c",)),),
    (),
    (("list", ()), ("drop", ("c",))),
)

SPANS = (((0, 0), 0, 2), ((0, 1), 4, 9), ((1, 0), 1, 5), ((3, 0), 0, 6), ((3, 1), 8, 9))

LINE = ((0, 0), (1, 0), (3, 0), (0, 1), (3, 1))

RESULTS = (
    ((0, 0), ("made", 4)),
    ((0, 1), ("moved", 3)),
    ((1, 0), ("found", "drawer", 4)),
    ((3, 0), ("names", ("a", "b", "c"))),
    ((3, 1), ("full",)),
)

END = (
    ((0, "drawer", (("a", 1), ("c", 4))), (1, "drawer", ()), (3, "sheet", ()), (4, "drawer", (("b", 3),))), 5,
)


def with_told(task, told):
    return tuple((other, told if other == task else as_was) for other, as_was in RESULTS)


class Serial(unittest.TestCase):
    def refused(self, word, at, thing, *, spans=SPANS, results=RESULTS, end=END, tree=SMALL):
        with self.assertRaises(NoPaper) as caught:
            lets_serial(tree, HANDS, spans, results, end, thing)
        self.assertIs(type(caught.exception), NoPaper)
        self.assertIsInstance(caught.exception, PaperError)
        self.assertEqual((caught.exception.word, caught.exception.at), (word, at), thing)
        self.assertIs(type(caught.exception.at), int)

    def test_one_that_is(self):
        self.assertIs(lets_serial(SMALL, HANDS, SPANS, RESULTS, END, LINE), True)
        other = ((1, 0), (0, 0), (3, 0), (0, 1), (3, 1))
        results, end = in_order(SMALL, HANDS, other)
        self.assertIs(lets_serial(SMALL, HANDS, SPANS, results, end, other), True)
        self.refused("told", 0, other)

    def test_two_lines_of_one_outcome(self):
        self.assertIs(
            lets_serial(SMALL, HANDS, SPANS, RESULTS, END, ((0, 0), (3, 0), (1, 0), (0, 1), (3, 1))), True)

    def test_the_void_one(self):
        for tree in TREES:
            self.assertIs(lets_serial(tree, HANDS, (), (), tree, ()), True)
        self.refused("end", -1, (), spans=(), results=(), end=EMPTY)
        self.refused("task", 0, ((0, 0),), spans=(), results=(), end=SMALL)

    def test_some_tasks_of_a_hand(self):
        spans = SPANS[:1] + SPANS[2:4]
        line = ((3, 0), (0, 0), (1, 0))
        results, end = in_order(SMALL, HANDS, line)
        self.assertIs(lets_serial(SMALL, HANDS, spans, results, end, line), True)
        self.refused("task", 3, line + ((0, 1),), spans=spans, results=results, end=end)

    def test_shape(self):
        for thing in [list(LINE), [], None, True, False, 0, 1, -1, HUGE, "", "a", "order", deep(40, LINE, list)]:
            self.refused("shape", -1, thing)

    def test_task(self):
        odd = [thing for thing in NEVER if thing != ()] + [
            (), 0, HUGE, "a", (0,), (0, 0, 0), (2, 0), (4, 0), (0, 2), (1, 1), (HUGE, 0), (0, HUGE), (0, -1), (-1, 0),
            (False, 0), (0, False), (0, True), (True, 0), (3, True), [0, 0], ("0", "0"), ((0, 0),), LINE, deep(39),
        ]
        for thing in odd:
            for place in range(len(LINE)):
                self.refused("task", place, LINE[:place] + (thing,) + LINE[place + 1:])
                self.refused("task", place, LINE[:place] + (thing,))
            self.refused("task", len(LINE), LINE + (thing,))

    def test_a_task_twice(self):
        for place, task in enumerate(LINE):
            for later in range(place + 1, len(LINE)):
                self.refused("task", later, LINE[:later] + (task,) + LINE[later + 1:])
            self.refused("task", len(LINE), LINE + (task,))
        self.refused("task", 1, ((0, 0), (0, 0)))

    def test_the_first_task_that_is_none(self):
        self.refused("task", 1, ((0, 0), (0, 0), None, (9, 9)))
        self.refused("task", 0, (None, (9, 9)))

    def test_few(self):
        self.refused("few", -1, ())
        for many in range(len(LINE)):
            self.refused("few", -1, LINE[:many])
            self.refused("few", -1, LINE[:many] + LINE[many + 1:])

    def test_ahead(self):
        self.refused("ahead", 1, ((0, 1), (0, 0), (1, 0), (3, 0), (3, 1)))
        self.refused("ahead", 4, ((0, 0), (1, 0), (0, 1), (3, 1), (3, 0)))
        self.refused("ahead", 2, ((0, 0), (3, 1), (1, 0), (3, 0), (0, 1)))
        self.refused("ahead", 3, ((1, 0), (3, 0), (3, 1), (0, 0), (0, 1)))

    def test_told(self):
        for place, task in enumerate(LINE):
            for told in (("none", 0), ("made", 5), ("there",), ("found", "sheet", 4), ("names", ())):
                self.refused("told", place, LINE, results=with_told(task, told))
        self.refused("told", 0, LINE, tree=EMPTY)

    def test_the_first_that_tells_something_else(self):
        results = tuple((task, ("same",)) for task, _ in RESULTS)
        self.refused("told", 0, LINE, results=results)
        keep = dict(RESULTS)
        results = tuple((task, keep[task] if task in LINE[:3] else ("same",)) for task, _ in RESULTS)
        self.refused("told", 3, LINE, results=results)

    def test_end(self):
        for end in [EMPTY, SMALL, (END[0], 6)]:
            self.refused("end", -1, LINE, end=end)

    def test_the_first_of_several(self):
        # Each paper has the fault told and all those behind it in the document's order.
        wrong = {"results": with_told((0, 0), ("there",)), "end": EMPTY}
        self.refused("shape", -1, list(LINE[1:]), **wrong)
        self.refused("task", 2, ((0, 1), (0, 0), None), **wrong)
        self.refused("task", 1, ((0, 1), (0, 1)), **wrong)
        self.refused("few", -1, ((0, 1), (0, 0)), **wrong)
        self.refused("ahead", 1, ((0, 1), (0, 0), (1, 0), (3, 0), (3, 1)), **wrong)
        self.refused("told", 0, LINE, **wrong)
        self.refused("end", -1, LINE, end=EMPTY)

    def test_all(self):
        let = 0
        for line in permutations([span[0] for span in SPANS]):
            at = {task: (begin, end) for task, begin, end in SPANS}
            late = [j for j, other in enumerate(line) if any(at[other][1] < at[one][0] for one in line[:j])]
            if late:
                self.refused("ahead", late[0], line)
                continue
            results, end = in_order(SMALL, HANDS, line)
            unlike = [j for j, task in enumerate(line) if dict(results)[task] != dict(RESULTS)[task]]
            if unlike:
                self.refused("told", unlike[0], line)
            elif end != END:
                self.refused("end", -1, line)
            else:
                let += 1
                self.assertIs(lets_serial(SMALL, HANDS, SPANS, RESULTS, END, line), True)
        self.assertTrue(let > 1)

    def test_by_name(self):
        self.assertIs(
            lets_serial(thing=LINE, end=END, results=RESULTS, spans=SPANS, hands=HANDS, tree=SMALL), True)

    def test_nothing_is_changed(self):
        for thing in NEVER + [list(LINE), (list(LINE),), LINE]:
            kept = copy.deepcopy((thing, SMALL, HANDS, SPANS, RESULTS, END))
            try:
                lets_serial(SMALL, HANDS, SPANS, RESULTS, END, thing)
            except NoPaper:
                pass
            self.assertEqual(repr((thing, SMALL, HANDS, SPANS, RESULTS, END)), repr(kept))


if __name__ == "__main__":
    unittest.main()
