"""[25], [26]: SPANS, AHEAD, LINES that FIT, MOMENTS."""

import copy
import unittest
from itertools import permutations

from drawerways.errors import NoOrder, PaperError
from drawerways.spans import is_ahead, is_spans, moments_by

import model
from things import HUGE, NEVER, changed, deep, just_tuples, spoiled

LOOK = ("look", ())
HANDS = ((LOOK, LOOK, LOOK), (), (LOOK,), (LOOK, LOOK))

RIGHT = [
    (),
    (((0, 0), 0, 0),),
    (((0, 0), 5, 9),),
    (((2, 0), 0, HUGE),),
    (((0, 0), 0, 3), ((0, 1), 4, 4), ((0, 2), 9, 9)),
    (((0, 0), 0, 3), ((2, 0), 0, 3), ((3, 0), 0, 3)),
    (((0, 0), 7, 8), ((0, 1), 9, 9), ((2, 0), 0, 9), ((3, 0), 1, 1), ((3, 1), 2, 20)),
    (((2, 0), 3, 5), ((3, 0), 3, 5), ((3, 1), 6, 6)),
]

WRONG = [
    (((1, 0), 0, 0),),
    (((4, 0), 0, 0),),
    (((HUGE, 0), 0, 0),),
    (((2, 0), 0, 0), ((2, 1), 1, 1)),
    (((0, HUGE), 0, 0),),
    (((0, 1), 0, 0),),
    (((0, 0), 0, 0), ((0, 2), 1, 1)),
    (((0, 0), 0, 1), ((3, 1), 2, 2)),
    (((0, 0), 3, 2),),
    (((0, 0), HUGE, 0),),
    (((0, 0), 0, 3), ((0, 1), 3, 4)),
    (((0, 0), 0, 3), ((0, 1), 2, 4)),
    (((0, 0), 5, 6), ((0, 1), 0, 1)),
    (((0, 0), 0, 3), ((0, 1), 4, 4), ((0, 2), 4, 4)),
    (((0, 1), 2, 3), ((0, 0), 0, 1)),
    (((2, 0), 0, 0), ((0, 0), 0, 0)),
    (((0, 0), 0, 0), ((0, 0), 0, 0)),
    (((0, 0), 0, 0), ((0, 0), 1, 1)),
    (((0, 0), 0, 0, 0),),
    (((0, 0), 0),),
    (((0, 0),),),
    (((0,), 0, 0),),
    (((0, 0, 0), 0, 0),),
    ((0, 0, 0),),
    ((0, 0, 0, 0),),
    ((0, 0), 0, 0),
    (((0, 0), True, 1),),
    (((0, 0), 0, True),),
    (((False, 0), 0, 0),),
    (((0, False), 0, 0),),
    (((0, 0), 0, 0), ((0, True), 1, 1)),
    (((0, 0), -1, 0),),
    (((-1, 0), 0, 0),),
    (((0, -1), 0, 0),),
    ([0, 0], 0, 0),
    (([0, 0], 0, 0),),
    ([(0, 0), 0, 0],),
    [((0, 0), 0, 0)],
    (((0, 0), "0", "0"),),
    (((0, 0), 0, None),),
    ((), ),
    (None,),
]


def tasks(spans):
    return [span[0] for span in spans]


def lines(spans):
    """All LINES of just the TASKS of SPANS, those that don't FIT, too."""
    for line in permutations(tasks(spans)):
        if all(list(line).index(one) < list(line).index(other)
               for one in line for other in line if one[0] == other[0] and one[1] < other[1]):
            yield line


class IsSpans(unittest.TestCase):
    def test_spans(self):
        for spans in RIGHT:
            self.assertIs(is_spans(HANDS, spans), True, spans)

    def test_no_spans(self):
        for thing in WRONG:
            self.assertIs(is_spans(HANDS, thing), False, thing)

    def test_without_hands(self):
        self.assertIs(is_spans((), ()), True)
        self.assertIs(is_spans(((), ()), ()), True)
        self.assertIs(is_spans((), RIGHT[1]), False)
        self.assertIs(is_spans(((),), RIGHT[1]), False)

    def test_a_thing_in_the_place_of_each_part(self):
        for spans in RIGHT[1:]:
            for thing in spoiled(spans):
                if thing != ():
                    self.assertIs(is_spans(HANDS, thing), False, thing)

    def test_small_changes(self):
        seen = set()
        for spans in RIGHT:
            for thing in changed(spans):
                right = model.spans(HANDS, thing)
                seen.add(right)
                self.assertIs(is_spans(HANDS, thing), right, thing)
        self.assertEqual(seen, {True, False})

    def test_any_thing(self):
        for thing in NEVER + [0, HUGE, "a", deep(40, 0), (deep(39),), ((deep(38), 0, 0),), (((0, 0), deep(37), 0),)]:
            self.assertIs(is_spans(HANDS, thing), False, thing)

    def test_by_name_and_nothing_is_changed(self):
        self.assertIs(is_spans(thing=(), hands=HANDS), True)
        for thing in WRONG:
            kept = copy.deepcopy(thing)
            is_spans(HANDS, thing)
            self.assertEqual(repr(thing), repr(kept))


class IsAhead(unittest.TestCase):
    def test_ahead(self):
        spans = (((0, 0), 0, 3), ((0, 1), 4, 6), ((2, 0), 3, 4), ((3, 0), 7, 7))
        for one, other, due in (
            ((0, 0), (0, 1), True), ((0, 1), (0, 0), False), ((0, 0), (2, 0), False), ((2, 0), (0, 0), False),
            ((2, 0), (0, 1), False), ((2, 0), (3, 0), True), ((0, 1), (3, 0), True), ((3, 0), (0, 1), False),
            ((0, 0), (3, 0), True), ((0, 0), (0, 0), False), ((3, 0), (3, 0), False),
        ):
            self.assertIs(is_ahead(spans, one, other), due)
            self.assertIs(is_ahead(other=other, one=one, spans=spans), due)

    def test_all(self):
        for spans in RIGHT:
            for one in spans:
                for other in spans:
                    self.assertIs(is_ahead(spans, one[0], other[0]), one[2] < other[1])


class Moments(unittest.TestCase):
    def test_the_void_line(self):
        self.assertEqual(moments_by((), ()), ())

    def test_the_greatest_begin(self):
        spans = (((0, 0), 0, 9), ((0, 1), 12, 14), ((2, 0), 4, 12), ((3, 0), 2, 3))
        self.assertEqual(
            moments_by(spans, ((0, 0), (3, 0), (2, 0), (0, 1))),
            (((0, 0), 0), ((3, 0), 2), ((2, 0), 4), ((0, 1), 12)),
        )
        self.assertEqual(
            moments_by(spans, ((3, 0), (2, 0), (0, 0), (0, 1))),
            (((3, 0), 2), ((2, 0), 4), ((0, 0), 4), ((0, 1), 12)),
        )
        self.assertEqual(
            moments_by(spans, ((3, 0), (0, 0), (0, 1), (2, 0))),
            (((3, 0), 2), ((0, 0), 2), ((0, 1), 12), ((2, 0), 12)),
        )

    def test_one_that_does_not_fit(self):
        spans = (((0, 0), 0, 9), ((0, 1), 12, 14), ((2, 0), 4, 11), ((3, 0), 2, 3))
        for line, paper in (
            (((2, 0), (3, 0), (0, 0), (0, 1)), ((2, 0), (3, 0))),
            (((0, 0), (2, 0), (3, 0), (0, 1)), ((2, 0), (3, 0))),
            (((0, 0), (0, 1), (3, 0), (2, 0)), ((0, 1), (3, 0))),
            (((0, 0), (0, 1), (2, 0), (3, 0)), ((0, 1), (2, 0))),
            (((2, 0), (0, 0), (0, 1), (3, 0)), ((2, 0), (3, 0))),
            (((3, 0), (0, 0), (0, 1), (2, 0)), ((0, 1), (2, 0))),
        ):
            self.refused(spans, line, paper)

    def refused(self, spans, line, paper):
        with self.assertRaises(NoOrder) as caught:
            moments_by(spans, line)
        self.assertIs(type(caught.exception), NoOrder)
        self.assertIsInstance(caught.exception, PaperError)
        self.assertEqual(caught.exception.paper, paper)
        self.assertTrue(just_tuples(caught.exception.paper))

    def test_all(self):
        fitted, refused = 0, 0
        for spans in RIGHT:
            at = {task: (begin, end) for task, begin, end in spans}
            for line in lines(spans):
                pairs = [(one, other) for j, other in enumerate(line) for one in line[:j] if at[other][1] < at[one][0]]
                if pairs:
                    refused += 1
                    self.refused(spans, line, pairs[0])
                    continue
                fitted += 1
                found = moments_by(spans, line)
                self.assertTrue(just_tuples(found))
                self.assertEqual(
                    found,
                    tuple((task, max(at[ahead][0] for ahead in line[:j + 1])) for j, task in enumerate(line)),
                )
                for task, moment in found:
                    self.assertTrue(at[task][0] <= moment <= at[task][1])
        self.assertTrue(fitted > 10 and refused > 10)

    def test_by_name(self):
        self.assertEqual(moments_by(line=((0, 0),), spans=(((0, 0), 5, 9),)), (((0, 0), 5),))


if __name__ == "__main__":
    unittest.main()
