"""[62]: SPANS and RESULTS of a RUN."""

import copy
import unittest

from drawerways.runs import run
from drawerways.spans import is_spans
from drawerways.spansof import results_of, spans_of
from drawerways.states import begun

from draws import drawn
from logged import logged, results, spans
from scripts import stepped_through
from things import SMALL, just_tuples

HANDS = (
    (("move", ("b",), ("a", "c")), ("look", ("b",))),
    (("link", ("b",), ("c",)),),
    (),
    (("list", ("b",)), ("make", ("a",), "drawer")),
)


class Spans(unittest.TestCase):
    def told(self, hands, log, due_spans, due_results):
        found = spans_of(SMALL, hands, log), results_of(SMALL, hands, log)
        self.assertEqual(found, (due_spans, due_results))
        self.assertTrue(just_tuples(found))
        self.assertIs(is_spans(hands, found[0]), True)

    def test_none(self):
        self.told((), (), (), ())
        self.told(HANDS, (), (), ())
        self.told(HANDS, ((2, "rests"), (2, "rests")), (), ())
        self.told(HANDS, ((3, "begin", 0, 0), (3, "walk", 0, 3)), (), ())

    def test_some(self):
        # 0 waits for the KEY first; 3 stands at "begin" while it rests; each begins with its hand's next EVENT.
        state, log = run(begun(SMALL, HANDS), (1, 0, 3, 1, 2, 3, 1, 1, 0, 3, 0, 3))
        self.assertEqual([event[1] for event in log], [
            "key", "waits", "begin", "begin", "rests", "walk", "locks", "told", "key", "told", "begin", "begin",
        ])
        self.told(
            HANDS, log, (((1, 0), 0, 7), ((3, 0), 2, 9)), (((1, 0), ("linked", 3)), ((3, 0), ("sheet", 1))))
        _, more = run(state, (3, 3, 2, 2, 2))
        self.told(
            HANDS, log + more, (((1, 0), 0, 7), ((3, 0), 2, 9), ((3, 1), 11, 13)),
            (((1, 0), ("linked", 3)), ((3, 0), ("sheet", 1)), ((3, 1), ("there",))))

    def test_again_is_of_the_same_span(self):
        hands = ((("look", ("b",)),), (("move", ("b",), ("c",)),))
        state, log = run(begun(SMALL, hands), (0, 0) + (1,) * 9 + (0, 0, 0, 0))
        self.assertEqual([event[1] for event in log if event[0] == 0], ["begin", "walk", "again", "begin", "walk", "told"])
        self.told(hands, log, (((0, 0), 0, 14), ((1, 0), 2, 10)), (((0, 0), ("none", 0)), ((1, 0), ("moved", 3))))

    def test_one_event_alone_ends_it(self):
        hands = ((("look", ()), ("look", ())),)
        log = ((0, "begin", 0, 0), (0, "told", 0, ("found", "drawer", 0)), (0, "begin", 1, 0), (
            0, "told", 1, ("found", "drawer", 0)), (0, "rests"))
        told = ("found", "drawer", 0)
        self.told(hands, log, (((0, 0), 0, 1), ((0, 1), 2, 3)), (((0, 0), told), ((0, 1), told)))

    def test_drawn(self):
        for tree, hands, schedule in drawn(120, first=70):
            _, log = stepped_through(begun(tree, hands), schedule)
            for many in (0, 1, len(log) // 3, len(log) // 2, len(log)):
                part = tuple(log[:many])
                self.assertEqual(spans_of(tree, hands, part), spans(part))
                self.assertEqual(results_of(tree, hands, part), results(part))
                self.assertTrue(is_spans(hands, spans_of(tree, hands, part)))

    def test_of_several_runs(self):
        log = logged(SMALL, HANDS, (1, 0, 3), (), (1, 1, 1, 3), (0,) * 20)
        self.assertEqual(len(spans_of(SMALL, HANDS, log)), 5)
        self.assertEqual(spans_of(SMALL, HANDS, log), spans(log))
        self.assertEqual(results_of(SMALL, HANDS, log), results(log))

    def test_by_name_and_nothing_is_changed(self):
        log = logged(SMALL, HANDS)
        kept = copy.deepcopy((SMALL, HANDS, log))
        self.assertEqual(spans_of(log=log, hands=HANDS, tree=SMALL), spans_of(SMALL, HANDS, log))
        self.assertEqual(results_of(log=log, hands=HANDS, tree=SMALL), results_of(SMALL, HANDS, log))
        self.assertEqual(repr((SMALL, HANDS, log)), repr(kept))


if __name__ == "__main__":
    unittest.main()
