"""[28], [31], [34]: SERIAL PAPERS sought, BARS told, all outcomes; SPANS that are wider."""

import copy
import unittest

from drawerways.barchecker import lets_bar
from drawerways.errors import NoOrder, PaperError
from drawerways.orders import MOST, outcomes, serial_paper
from drawerways.serialchecker import lets_serial
from drawerways.spans import is_spans, moments_by
from drawerways.tasks import in_order, trees_along
from drawerways.trees import EMPTY, is_tree

from scenes import (
    CROSSED, LOOKERS, MAKERS, MIXED, ONE, ROW, SCENES, SIX, SOME, VOID, all_that_comes, asked_of, bar_of, fitting, tasks,
)
from things import HUGE, SMALL, TREES, just_tuples


def many_lookers(many):
    """So many hands that look once, all at once."""
    return tuple((("look", ()),) for _ in range(many)), tuple(((hand, 0), 0, 9) for hand in range(many))


class Orders(unittest.TestCase):
    def refused(self, tree, hands, spans, results, end, **more):
        with self.assertRaises(NoOrder) as caught:
            serial_paper(tree, hands, spans, results, end, **more)
        self.assertIs(type(caught.exception), NoOrder)
        self.assertIsInstance(caught.exception, PaperError)
        return caught.exception.paper


class SerialPaper(Orders):
    def test_scenes(self):
        for tree, hands, spans in SCENES:
            self.assertTrue(is_tree(tree) and is_spans(hands, spans))

    def test_void_spans(self):
        for tree in TREES:
            for hands in ((), ((), ()), VOID[1]):
                self.assertEqual(serial_paper(tree, hands, (), (), tree), ())
                self.assertEqual(self.refused(tree, hands, (), (), (tree[0], tree[1] + 1)), ("end",))
        self.assertEqual(self.refused(SMALL, (), (), (), EMPTY), ("end",))

    def test_one_task(self):
        tree, hands, spans = ONE
        end = (
            ((0, "drawer", (("a", 1), ("b", 3))), (1, "drawer", (("a", 4),)), (3, "sheet", ()), (4, "sheet", ())), 5,
        )
        results = (((0, 0), ("made", 4)),)
        self.assertEqual(serial_paper(tree, hands, spans, results, end), ((0, 0),))
        other = (((0, 0), ("made", 5)),)
        self.assertEqual(self.refused(tree, hands, spans, other, end), ("by", (((0, 0), ("told",)),)))
        self.assertEqual(self.refused(tree, hands, spans, other, tree), ("by", (((0, 0), ("told",)),)))
        self.assertEqual(self.refused(tree, hands, spans, results, tree), ("by", (((0, 0), ("end",)),)))
        self.assertEqual(self.refused(tree, hands, spans, results, (end[0], 6)), ("by", (((0, 0), ("end",)),)))

    def test_the_only_line(self):
        tree, hands, spans = MAKERS
        for line in fitting(spans):
            results, end = in_order(tree, hands, line)
            found = serial_paper(tree, hands, spans, results, end)
            self.assertIs(lets_serial(tree, hands, spans, results, end, found), True)
            # Who is first is seen by the NODES, but not ahead of whom the one is refused.
            made = [task for task in line if dict(results)[task][0] == "made"]
            self.assertEqual([task for task in found if task in made], made)

    def test_a_bar_of_two(self):
        hands, spans = (((("look", ("a",)),), (("drop", ("a",)),))), (((0, 0), 0, 1), ((1, 0), 1, 2))
        tree = (((0, "drawer", (("a", 1),)), (1, "sheet", ())), 2)
        end = (((0, "drawer", ()),), 2)
        dropped = ((1, 0), ("dropped", 1))
        found = serial_paper(tree, hands, spans, (((0, 0), ("none", 0)), dropped), end)
        self.assertEqual(found, ((1, 0), (0, 0)))
        found = serial_paper(tree, hands, spans, (((0, 0), ("found", "sheet", 1)), dropped), end)
        self.assertEqual(found, ((0, 0), (1, 0)))
        self.assertEqual(
            self.refused(tree, hands, spans, (((0, 0), ("found", "sheet", 1)), ((1, 0), ("none", 0))), end),
            ("by", (((0, 0), ("by", (((1, 0), ("told",)),))), ((1, 0), ("told",)))),
        )
        self.assertEqual(
            self.refused(tree, hands, spans, (((0, 0), ("found", "sheet", 1)), dropped), tree),
            ("by", (((0, 0), ("by", (((1, 0), ("end",)),))), ((1, 0), ("by", (((0, 0), ("told",)),))))),
        )
        # Where the one is AHEAD of the other, this one isn't NEXT at first.
        apart = (((0, 0), 0, 1), ((1, 0), 2, 2))
        self.assertEqual(
            self.refused(tree, hands, apart, (((0, 0), ("none", 0)), dropped), end), ("by", (((0, 0), ("told",)),)))
        apart = (((0, 0), 3, 4), ((1, 0), 2, 2))
        self.assertEqual(
            self.refused(tree, hands, apart, (((0, 0), ("found", "sheet", 1)), dropped), end),
            ("by", (((1, 0), ("by", (((0, 0), ("told",)),))),)),
        )

    def test_all(self):
        told, barred = 0, 0
        for scene in SCENES:
            tree, hands, spans = scene
            asked, found = asked_of(tree, hands, spans)
            for results, end in asked:
                if (results, end) in found:
                    told += 1
                    line = serial_paper(tree, hands, spans, results, end)
                    self.assertIn(line, found[results, end])
                    self.assertTrue(just_tuples(line))
                    self.assertIs(lets_serial(tree, hands, spans, results, end, line), True)
                    continue
                barred += 1
                bar = self.refused(tree, hands, spans, results, end)
                self.assertTrue(just_tuples(bar))
                self.assertIs(lets_bar(tree, hands, spans, results, end, bar), True)
                self.assertEqual(bar, bar_of(scene, results, end))
        self.assertTrue(told > 20 and barred > 100, (told, barred))

    def test_most(self):
        self.assertEqual(MOST, 6)
        self.assertIs(type(MOST), int)
        for scene in SCENES:
            tree, hands, spans = scene
            for (results, end), _ in list(all_that_comes(tree, hands, spans).items())[:2]:
                for most in (len(spans), len(spans) + 1, HUGE):
                    line = serial_paper(tree, hands, spans, results, end, most=most)
                    self.assertIs(lets_serial(tree, hands, spans, results, end, line), True)
                for most in range(len(spans)):
                    self.assertIsNone(self.refused(tree, hands, spans, results, end, most=most))
                    self.assertIsNone(self.refused(tree, hands, spans, results, EMPTY, most=most))

    def test_most_left_out(self):
        for many in range(10):
            hands, spans = many_lookers(many)
            results, end = in_order(SMALL, hands, tasks(spans))
            if many > 6:
                self.assertIsNone(self.refused(SMALL, hands, spans, results, end))
            else:
                line = serial_paper(SMALL, hands, spans, results, end)
                self.assertEqual(sorted(line), tasks(spans))
            self.assertEqual(sorted(serial_paper(SMALL, hands, spans, results, end, most=many)), tasks(spans))

    def test_ten_tasks(self):
        looks = (("look", ("b",)), ("list", ()), ("drop", ("z",)))
        hands = (looks, looks, looks, looks[:1])
        spans = tuple(((hand, k), k * 10, k * 10 + 9) for hand in range(4) for k in range(len(hands[hand])))
        results, end = in_order(SMALL, hands, tasks(spans))
        line = serial_paper(SMALL, hands, spans, results, end, most=10)
        self.assertIs(lets_serial(SMALL, hands, spans, results, end, line), True)
        bar = self.refused(SMALL, hands, spans, results, EMPTY, most=10)
        self.assertIs(lets_bar(SMALL, hands, spans, results, EMPTY, bar), True)
        self.assertIsNone(self.refused(SMALL, hands, spans, results, end, most=9))
        self.assertEqual(outcomes(SMALL, hands, spans, most=10), ((results, end),))

    def test_what_was_told_is_handed_in_again(self):
        for tree, hands, spans in SCENES:
            for results, end in outcomes(tree, hands, spans):
                line = serial_paper(tree, hands, spans, results, end)
                self.assertEqual(in_order(tree, hands, line), (results, end))
                along = trees_along(tree, hands, line)
                self.assertEqual(along[-1], end)
                for place, at in enumerate(along):
                    self.assertEqual(in_order(at, hands, line[place:])[1], end)

    def test_by_name(self):
        self.assertEqual(
            serial_paper(most=0, end=SMALL, results=(), spans=(), hands=(), tree=SMALL), ())
        with self.assertRaises(TypeError):
            serial_paper(SMALL, (), (), (), SMALL, 6)

    def test_asked_before_and_nothing_is_changed(self):
        for scene in SCENES:
            tree, hands, spans = scene
            asked, found = asked_of(tree, hands, spans)
            kept = copy.deepcopy((scene, asked))
            for results, end in asked[:10] * 2:
                try:
                    line = serial_paper(tree, hands, spans, results, end)
                    self.assertIn(line, found[results, end])
                except NoOrder as refused:
                    self.assertEqual(refused.paper, bar_of(scene, results, end))
            outcomes(tree, hands, spans)
            self.assertEqual(repr((scene, asked)), repr(kept))


class Outcomes(Orders):
    def test_all(self):
        many = []
        for tree, hands, spans in SCENES:
            found = outcomes(tree, hands, spans)
            due = all_that_comes(tree, hands, spans)
            self.assertEqual(found, tuple(sorted(due)))
            self.assertEqual(len(found), len(set(found)))
            self.assertTrue(just_tuples(found))
            for line in fitting(spans):
                self.assertIn(in_order(tree, hands, line), found)
            many.append(len(found))
        self.assertTrue(max(many) >= 10, many)

    def test_how_many(self):
        for scene, many in ((VOID, 1), (ONE, 1), (ROW, 1), (LOOKERS, 1), (MAKERS, 4)):
            self.assertEqual(len(outcomes(*scene)), many)

    def test_void_spans(self):
        for tree in TREES:
            for hands in ((), ((), ()), VOID[1]):
                self.assertEqual(outcomes(tree, hands, ()), (((), tree),))
                self.assertEqual(outcomes(tree, hands, (), most=0), (((), tree),))

    def test_two_that_make(self):
        hands = ((("make", ("a",), "drawer"),), (("make", ("b",), "sheet"),))
        together = (((0, 0), 0, 5), ((1, 0), 5, 6))
        first = (
            (((0, 0), ("made", 1)), ((1, 0), ("made", 2))),
            (((0, "drawer", (("a", 1), ("b", 2))), (1, "drawer", ()), (2, "sheet", ())), 3),
        )
        second = (
            (((0, 0), ("made", 2)), ((1, 0), ("made", 1))),
            (((0, "drawer", (("a", 2), ("b", 1))), (1, "sheet", ()), (2, "drawer", ())), 3),
        )
        self.assertEqual(outcomes(EMPTY, hands, together), (first, second))
        self.assertEqual(outcomes(EMPTY, hands, (((0, 0), 0, 5), ((1, 0), 6, 6))), (first,))
        self.assertEqual(outcomes(EMPTY, hands, (((0, 0), 9, 9), ((1, 0), 6, 6))), (second,))

    def test_most(self):
        for tree, hands, spans in SCENES:
            for most in range(len(spans)):
                self.assertIsNone(self.refused_outcomes(tree, hands, spans, most=most))
            for most in (len(spans), len(spans) + 1, HUGE):
                self.assertEqual(outcomes(tree, hands, spans, most=most), outcomes(tree, hands, spans))
        for many in range(9):
            hands, spans = many_lookers(many)
            if many > 6:
                self.assertIsNone(self.refused_outcomes(SMALL, hands, spans))
            else:
                self.assertEqual(len(outcomes(SMALL, hands, spans)), 1)

    def refused_outcomes(self, tree, hands, spans, **more):
        with self.assertRaises(NoOrder) as caught:
            outcomes(tree, hands, spans, **more)
        self.assertIs(type(caught.exception), NoOrder)
        return caught.exception.paper

    def test_by_name(self):
        self.assertEqual(outcomes(most=3, spans=(), hands=(), tree=SMALL), (((), SMALL),))
        with self.assertRaises(TypeError):
            outcomes(SMALL, (), (), 6)


class Wider(Orders):
    """SPANS with each begin less, each end greater, those of one hand still apart."""

    WIDER = [
        (MIXED, (((0, 0), 0, 3), ((0, 1), 4, 20), ((1, 0), 0, 8), ((3, 0), 0, 7), ((3, 1), 8, 30))),
        (CROSSED, (((0, 0), 0, 5), ((0, 1), 6, 20), ((1, 0), 0, 7), ((1, 1), 8, 20))),
        (ROW, (((0, 0), 0, 1), ((0, 1), 3, 6), ((1, 0), 0, 4), ((1, 1), 5, 7))),
        (SOME, (((0, 0), 0, 9), ((1, 0), 0, 3), ((1, 1), 4, 9))),
        (SIX, SIX[2]),
        (ONE, (((0, 0), 0, HUGE),)),
        (VOID, ()),
    ]

    def test_no_paper_fewer_no_bar_more(self):
        more = 0
        for (tree, hands, spans), wider in self.WIDER:
            self.assertTrue(is_spans(hands, wider))
            self.assertTrue(all(w <= s and e <= f for (_, s, e), (_, w, f) in zip(spans, wider)))
            for results, end in asked_of(tree, hands, wider)[0] + asked_of(tree, hands, spans)[0]:
                try:
                    line = serial_paper(tree, hands, spans, results, end)
                    self.assertIs(lets_serial(tree, hands, wider, results, end, line), True)
                    again = serial_paper(tree, hands, wider, results, end)
                    self.assertIs(lets_serial(tree, hands, wider, results, end, again), True)
                except NoOrder:
                    # There may be one in the wider SPANS; where there is none, there is none in these.
                    more += (results, end) in outcomes(tree, hands, wider)
        self.assertTrue(more > 0)

    def test_outcomes(self):
        more = 0
        for (tree, hands, spans), wider in self.WIDER:
            one, other = outcomes(tree, hands, spans), outcomes(tree, hands, wider)
            self.assertLessEqual(set(one), set(other))
            more += len(other) - len(one)
        self.assertTrue(more > 0)

    def test_moments(self):
        for (_, _, spans), wider in self.WIDER:
            for line in fitting(spans):
                one, other = moments_by(spans, line), moments_by(wider, line)
                self.assertEqual([task for task, _ in one], [task for task, _ in other])
                self.assertTrue(all(later <= at for (_, at), (_, later) in zip(one, other)))


if __name__ == "__main__":
    unittest.main()
