"""[29], [30]: the checker of BARS."""

import copy
import unittest

from drawerways.barchecker import lets_bar
from drawerways.errors import NoOrder, NoPaper, PaperError
from drawerways.orders import serial_paper
from drawerways.serialchecker import lets_serial
from drawerways.trees import EMPTY

from scenes import SCENES, SIX, asked_of, bar_of, fitting, why_no_bar
from things import HUGE, NEVER, SMALL, TREES, changed, deep, just_tuples, parts_changed, spoiled

# A look, and a drop of what is looked at, the other DEED of its hand behind it; a third one behind both.
HANDS = ((("look", ("b",)),), (("drop", ("b",)), ("list", ())), (("make", ("b",), "sheet"),))
SPANS = (((0, 0), 0, 9), ((1, 0), 2, 3), ((1, 1), 4, 8), ((2, 0), 10, 11))
SCENE = (SMALL, HANDS, SPANS)
END = (((0, "drawer", (("a", 1), ("b", 4))), (1, "drawer", ()), (4, "sheet", ())), 5)

# What comes of the look first, but that the list has told the NAME that is gone.
RESULTS = (
    ((0, 0), ("found", "sheet", 3)), ((1, 0), ("dropped", 3)), ((1, 1), ("names", ("a", "b"))), ((2, 0), ("made", 4)),
)
BAR = ("by", (
    ((0, 0), ("by", (((1, 0), ("by", (((1, 1), ("told",)),))),))),
    ((1, 0), ("by", (((0, 0), ("told",)), ((1, 1), ("told",))))),
))

# All told right, but another END.
RIGHT = (RESULTS[0], RESULTS[1], ((1, 1), ("names", ("a",))), RESULTS[3])
BAR_OF_END = ("by", (
    ((0, 0), ("by", (((1, 0), ("by", (((1, 1), ("by", (((2, 0), ("end",)),))),))),))),
    ((1, 0), ("by", (((0, 0), ("told",)), ((1, 1), ("by", (((0, 0), ("told",)),)))))),
))


class Bars(unittest.TestCase):
    def refused(self, word, path, thing, *, results=RESULTS, end=END, spans=SPANS, tree=SMALL, hands=HANDS):
        with self.assertRaises(NoPaper) as caught:
            lets_bar(tree, hands, spans, results, end, thing)
        self.assertIs(type(caught.exception), NoPaper)
        self.assertIsInstance(caught.exception, PaperError)
        self.assertEqual((caught.exception.word, caught.exception.at), (word, path), thing)
        self.assertTrue(just_tuples(caught.exception.at))

    def let(self, thing, *, results=RESULTS, end=END, spans=SPANS):
        self.assertIs(lets_bar(SMALL, HANDS, spans, results, end, thing), True)

    def test_some_that_are(self):
        self.let(BAR)
        self.let(BAR, end=EMPTY)
        self.let(BAR_OF_END, results=RIGHT, end=EMPTY)
        self.let(BAR_OF_END, results=RIGHT, end=(END[0], 6))

    def test_void_spans(self):
        for tree in TREES:
            other = (tree[0], tree[1] + 1)
            self.assertIs(lets_bar(tree, HANDS, (), (), other, ("end",)), True)
            for thing in (("told",), ("by", ())):
                self.refused("word", (), thing, tree=tree, spans=(), results=(), end=other)
            for thing in (("told",), ("end",), ("by", ()), ("by", (((0, 0), ("told",)),))):
                self.refused("word", (), thing, tree=tree, spans=(), results=(), end=tree)
            self.refused("shape", (), (), tree=tree, spans=(), results=(), end=tree)

    def test_shape_of_the_whole(self):
        things = [thing for thing in NEVER] + [
            0, 1, HUGE, "a", "told", "end", "by", (), ("told", ()), ("told", "told"), ("end", ()), ("end", "end"),
            ("by",), ("by", ((), ())), ("by", (), ()), ("by", ((),)), ("by", ((0,),)), ("by", ((0, 0, 0),)),
            ("by", [((0, 0), ("told",))]), ("by", ([(0, 0), ("told",)],)), ("by", []), ("by", None), ("by", "ab"),
            ("by", ("ab",)), ("by", (0, 0)), ("by", 0), ("by", {}), ["told"], ["by", BAR[1]], ["end"], ("Told",),
            ("none", ()), ("bar", BAR[1]), (True,), (("told",),), (b"told",), ("by", (((0, 0), ("told",)), None)),
            (0, BAR[1]), (None, BAR[1]), deep(40, ("told",)), deep(40, ("told",), list), BAR[1], (BAR,),
        ]
        for thing in things:
            self.refused("shape", (), thing)

    def test_shape_within(self):
        first, second = BAR[1]
        for odd in ((), None, True, 0, "told", ["told"], ("told", ()), ("by",), ("by", None), ("by", [first]), BAR[1]):
            self.refused("shape", ((0, 0),), ("by", (((0, 0), odd), second)))
            self.refused("shape", ((1, 0),), ("by", (first, ((1, 0), odd))))
            inner = ("by", (((0, 0), ("told",)), ((1, 1), odd)))
            self.refused("shape", ((1, 0), (1, 1)), ("by", (first, ((1, 0), inner))))
            inner = ("by", (((1, 0), ("by", (((1, 1), odd),))),))
            self.refused("shape", ((0, 0), (1, 0), (1, 1)), ("by", (((0, 0), inner), second)))

    def test_word(self):
        first, second = BAR[1]
        self.refused("word", (), ("told",))
        self.refused("word", (), ("end",))
        for part in (("told",), ("end",)):
            self.refused("word", ((0, 0),), ("by", (((0, 0), part), second)))
            self.refused("word", ((1, 0),), ("by", (first, ((1, 0), part))))
        for part in (("end",), ("by", ()), BAR, ("by", (((2, 0), ("end",)),))):
            inner = ("by", (((0, 0), part), ((1, 1), ("told",))))
            self.refused("word", ((1, 0), (0, 0)), ("by", (first, ((1, 0), inner))))

    def test_word_behind_all(self):
        def bar(part):
            inner = ("by", (((1, 0), ("by", (((1, 1), ("by", (((2, 0), part),))),))),))
            return ("by", (((0, 0), inner), BAR_OF_END[1][1]))

        path = ((0, 0), (1, 0), (1, 1), (2, 0))
        self.let(bar(("end",)), results=RIGHT, end=EMPTY)
        for part in (("told",), ("by", ())):
            self.refused("word", path, bar(part), results=RIGHT, end=EMPTY)
        # The TREE is the END, and all TOLD as they should: no word is right.
        for part in (("told",), ("end",), ("by", ())):
            self.refused("word", path, bar(part), results=RIGHT)
        self.refused("shape", path, bar(()), results=RIGHT)

    def test_told_goes_ahead_of_end(self):
        results = RIGHT[:3] + (((2, 0), ("made", 5)),)

        def bar(part):
            inner = ("by", (((1, 0), ("by", (((1, 1), ("by", (((2, 0), part),))),))),))
            return ("by", (((0, 0), inner), BAR_OF_END[1][1]))

        for end in (END, EMPTY):
            self.let(bar(("told",)), results=results, end=end)
            self.refused("word", ((0, 0), (1, 0), (1, 1), (2, 0)), bar(("end",)), results=results, end=end)

    def test_rows(self):
        first, second = BAR[1]
        for rows in (
            (), (first,), (second,), (second, first), (first, first), (first, second, second), (first, first, second),
            (first, second, ((1, 1), ("told",))), (first, ((1, 1), second[1])), (first, second, ((2, 0), ("told",))),
            (((2, 0), first[1]), second), (((0, 0), ("told",)),), (((0, 1), first[1]), second),
            (((False, 0), first[1]), second), (((0, False), first[1]), second), (first, ((True, 0), second[1])),
            (first, ((1, False), second[1])), (([0, 0], first[1]), second), ((None, first[1]), second),
            ((0, first[1]), second), (("ab", first[1]), second), (((), first[1]), second), ((first, second), second),
            (((0, 0, 0), first[1]), second), (((-1, 0), first[1]), second), (((HUGE, 0), first[1]), second),
        ):
            self.refused("rows", (), ("by", rows))
        inner = second[1][1]
        for rows in (
            (), inner[:1], inner[1:], inner[::-1], inner + inner[:1], inner + (((2, 0), ("told",)),),
            inner[:1] + (((True, 1), ("told",)),), inner[:1] + (((1, True), ("told",)),),
            (((1, 0), ("told",)), inner[1]), (((0, 0), ("told",)), ((1, 0), ("told",)), ((1, 1), ("told",))),
        ):
            self.refused("rows", ((1, 0),), ("by", (first, ((1, 0), ("by", rows)))))

    def test_a_task_that_is_not_next(self):
        # (1, 1) is behind (1, 0), (2, 0) behind all, whatever they would tell.
        self.refused("rows", (), ("by", (((0, 0), BAR[1][0][1]), ((1, 1), ("told",)))))
        self.refused("rows", (), ("by", (BAR[1][0], BAR[1][1], ((2, 0), ("told",)))))
        apart = (((0, 0), 0, 1), ((1, 0), 2, 3), ((1, 1), 4, 8), ((2, 0), 10, 11))
        self.refused("rows", (), BAR, spans=apart)
        self.let(("by", BAR[1][:1]), spans=apart)

    def test_the_first_of_several(self):
        first, second = BAR[1]
        # A part goes ahead of its own parts: its rows are amiss, and what is in them.
        self.refused("rows", (), ("by", (second, ((0, 0), None))))
        self.refused("word", (), ("end",), end=EMPTY)
        # All that is within the first part goes ahead of the second one.
        inner = ("by", (((1, 0), ("by", (((1, 1), None),))),))
        self.refused("shape", ((0, 0), (1, 0), (1, 1)), ("by", (((0, 0), inner), ((1, 0), None))))
        inner = ("by", (((1, 0), ("by", ())),))
        self.refused("rows", ((0, 0), (1, 0)), ("by", (((0, 0), inner), ((1, 0), ("end",)))))
        inner = ("by", (((1, 0), ("end",)),))
        self.refused("word", ((0, 0), (1, 0)), ("by", (((0, 0), inner), ((1, 0), ()))))
        self.refused("shape", ((1, 0),), ("by", (first, ((1, 0), ()))))
        # By kind ahead of the word, the word ahead of the rows.
        self.refused("shape", (), ("by", (None,)), spans=(), results=(), end=SMALL)
        self.refused("word", (), ("by", (((9, 9), None),)), spans=(), results=(), end=SMALL)
        self.refused("word", ((1, 0), (0, 0)), ("by", (first, ((1, 0), ("by", (
            ((0, 0), ("by", ((None, None),))), ((1, 1), None)))))))

    def test_small_changes(self):
        for bar, results, end in ((BAR, RESULTS, END), (BAR_OF_END, RIGHT, EMPTY), (BAR_OF_END, RIGHT, END)):
            seen = set()
            for thing in [bar] + list(changed(bar)) + list(spoiled(bar)):
                due = why_no_bar(SCENE, results, end, thing)
                seen.add(due and due[0])
                if due is None:
                    self.let(thing, results=results, end=end)
                else:
                    self.refused(due[0], due[1], thing, results=results, end=end)
            self.assertLessEqual({"shape", "rows"}, seen)

    def test_parts_in_the_places_of_others(self):
        parts = [("told",), ("end",), ("by", ()), BAR[1][0][1], BAR[1][1][1], BAR, BAR[1][1][1][1][0]]

        def others(thing):
            return iter(parts)

        for results, end in ((RESULTS, END), (RIGHT, END), (RIGHT, EMPTY)):
            seen = set()
            for thing in list(parts_changed(BAR, others)) + list(parts_changed(BAR_OF_END, others)):
                due = why_no_bar(SCENE, results, end, thing)
                seen.add(due and due[0])
                if due is None:
                    self.let(thing, results=results, end=end)
                else:
                    self.refused(due[0], due[1], thing, results=results, end=end)
            self.assertLessEqual({"shape", "word", "rows"}, seen)

    def test_a_paper_or_a_bar(self):
        papers, bars = 0, 0
        for scene in SCENES:
            tree, hands, spans = scene
            lines = list(fitting(spans))
            asked = asked_of(tree, hands, spans)[0]
            for results, end in asked[:4] + asked[4::17]:
                bar = bar_of(scene, results, end)
                try:
                    line = serial_paper(tree, hands, spans, results, end)
                    papers += 1
                    self.assertIs(lets_serial(tree, hands, spans, results, end, line), True)
                    self.assertIsNone(bar)
                except NoOrder as refused:
                    bars += 1
                    self.assertEqual(refused.paper, bar)
                    self.assertIs(lets_bar(tree, hands, spans, results, end, bar), True)
                    for line in lines[:10]:
                        with self.assertRaises(NoPaper):
                            lets_serial(tree, hands, spans, results, end, line)
        self.assertTrue(papers > 10 and bars > 10)

    def test_the_bar_of_a_neighbour_lets_no_other_by(self):
        tree, hands, spans = SIX
        asked, found = asked_of(tree, hands, spans)
        barred = [one for one in asked if one not in found][::40]
        for results, end in barred:
            bar = bar_of(SIX, results, end)
            for other in barred + list(found)[:3]:
                due = why_no_bar(SIX, *other, bar)
                if due is None:
                    self.assertIs(lets_bar(tree, hands, spans, *other, bar), True)
                else:
                    self.refused(
                        due[0], due[1], bar, tree=tree, hands=hands, spans=spans, results=other[0], end=other[1])

    def test_by_name(self):
        self.assertIs(
            lets_bar(thing=BAR, end=END, results=RESULTS, spans=SPANS, hands=HANDS, tree=SMALL), True)

    def test_nothing_is_changed(self):
        for thing in NEVER + [BAR, ["by", list(BAR[1])], ("by", [list(BAR[1][0])]), ("by", (BAR[1][0], ([1, 0], [])))]:
            kept = copy.deepcopy((thing, SCENE, RESULTS, END))
            try:
                lets_bar(SMALL, HANDS, SPANS, RESULTS, END, thing)
            except NoPaper:
                pass
            self.assertEqual(repr((thing, SCENE, RESULTS, END)), repr(kept))


if __name__ == "__main__":
    unittest.main()
