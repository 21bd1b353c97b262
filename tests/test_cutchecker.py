"""[44]: the checker of CUT PAPERS."""

import copy
import unittest
from itertools import product

from drawerways.cutchecker import lets_cuts
from drawerways.cuts import cuts
from drawerways.errors import NoPaper, PaperError

from logs import ROWS, why_no_cuts
from things import HUGE, NEVER, SMALL, changed, deep, spoiled, with_part

# A look, a sheet that is made, a look, a move, two looks: six CUTS.
TREE = SMALL
ROW = (("look", ()), ("make", ("c",), "sheet"), ("list", ()), ("move", ("b",), ("d",)), ("look", ()), ("list", ("a",)))
PAPER = (1, 3, 4, 4, 4, 6)

# Nothing is written, so there is one CUT, and any number of these DEEDS may be told of it.
STILL = (("list", ()), ("look", ()))


class CutPapers(unittest.TestCase):
    def refused(self, word, at, thing, *, tree=TREE, row=ROW):
        with self.assertRaises(NoPaper) as caught:
            lets_cuts(tree, row, thing)
        self.assertIs(type(caught.exception), NoPaper)
        self.assertIsInstance(caught.exception, PaperError)
        self.assertEqual((caught.exception.word, caught.exception.at), (word, at), thing)
        self.assertIs(type(caught.exception.at), int)

    def let(self, thing, *, tree=TREE, row=ROW):
        found = lets_cuts(tree, row, thing)
        self.assertEqual(found, len(thing))
        self.assertIs(type(found), int)

    def judged(self, tree, row, thing):
        due = why_no_cuts(tree, row, thing)
        if due is None:
            self.let(thing, tree=tree, row=row)
            return "let"
        self.refused(due[0], due[1], thing, tree=tree, row=row)
        return due[0]

    def test_as_told(self):
        self.assertEqual(tuple(many for many, _ in cuts(TREE, ROW)), PAPER)
        self.let(PAPER)
        for tree, row in ROWS:
            self.let(tuple(many for many, _ in cuts(tree, row)), tree=tree, row=row)

    def test_others_that_are(self):
        # What turns nothing behind the last WRITE may be among those of the last CUT or not.
        for last in (4, 5, 6):
            self.let((1, 3, 4, 4, 4, last))
        row = (("look", ()), ("make", ("c",), "sheet"))
        self.let((1, 2), row=row)
        self.refused("few", 0, (0, 2), row=row)

    def test_where_there_is_no_write(self):
        for many in range(3):
            self.let((many,), row=STILL)
        self.refused("more", 0, (3,), row=STILL)
        self.refused("more", 0, (HUGE,), row=STILL)
        self.let((0,), row=())
        self.refused("more", 0, (1,), row=())
        self.refused("many", -1, (), row=())
        self.refused("many", -1, (0, 0), row=())

    def test_shape(self):
        for thing in NEVER + [0, 6, HUGE, "a", "134446", [1, 3, 4, 4, 4, 6], (None,), PAPER[:5] + (True,),
                              (True,) + PAPER[1:], (1, 3, 4, 4, 4, -1), (1, 3, 4, 4, 4, "6"), (PAPER,), ((1,),) * 6,
                              PAPER + (None,), deep(40, 1), deep(40, 1, list)]:
            if thing != ():
                self.refused("shape", -1, thing)
                self.refused("shape", -1, thing, row=())
                self.refused("shape", -1, thing, row=STILL)

    def test_many(self):
        for thing in ((), (1,), PAPER[:5], PAPER[1:], PAPER + (6,), PAPER * 2, (9, 0), (HUGE,) * 7, (0,) * 5):
            self.refused("many", -1, thing)

    def test_falls(self):
        self.refused("falls", 1, (1, 0, 4, 4, 4, 6))
        self.refused("falls", 3, (1, 3, 4, 3, 4, 6))
        self.refused("falls", 5, (1, 3, 4, 4, 4, 3))
        self.refused("falls", 5, (1, 3, 4, 4, 4, 0))

    def test_few(self):
        self.refused("few", 0, (0, 3, 4, 4, 4, 6))
        self.refused("few", 1, (1, 2, 4, 4, 4, 6))
        self.refused("few", 1, (1, 1, 4, 4, 4, 6))
        # Behind the last WRITE: those up to its DEED.
        row = (("make", ("c",), "sheet"), ("look", ()))
        self.refused("few", 1, (0, 0), row=row)
        self.let((0, 1), row=row)
        self.let((0, 2), row=row)
        row = (("look", ()), ("move", ("b",), ("c",)), ("look", ()))
        self.refused("few", 0, (0, 2, 2, 2, 2), row=row)

    def test_more(self):
        self.refused("more", 0, (3, 3, 4, 4, 4, 6))
        self.refused("more", 0, (HUGE, 3, 4, 4, 4, 6))
        self.refused("more", 1, (1, 5, 5, 5, 5, 6))
        self.refused("more", 2, (1, 3, 5, 5, 5, 6))
        self.refused("more", 4, (1, 3, 4, 4, 5, 6))
        self.refused("more", 5, (1, 3, 4, 4, 4, 7))
        self.refused("more", 5, (1, 3, 4, 4, 4, HUGE))

    def test_tree(self):
        self.refused("tree", 0, (2, 3, 4, 4, 4, 6))
        self.refused("tree", 1, (1, 4, 4, 4, 4, 6))
        self.refused("tree", 2, (1, 3, 3, 4, 4, 6))
        self.refused("tree", 2, (1, 3, 3, 3, 3, 6))
        # The TREE behind the move alone is none behind the swap that follows it.
        row = (("move", ("b",), ("d",)), ("swap", ("a",), ("d",)))
        self.let((0, 1, 1, 1, 1, 2, 2, 2, 2), row=row)
        self.refused("tree", 4, (0, 1, 1, 1, 2, 2, 2, 2, 2), row=row)
        self.refused("tree", 5, (0, 1, 1, 1, 1, 1, 2, 2, 2), row=row)

    def test_the_first_of_several(self):
        self.refused("shape", -1, (9, 0, None))
        self.refused("many", -1, (9, 0, 0))
        # NUMBER by NUMBER: what is told of one ahead goes first, whatever it is.
        self.refused("few", 0, (0, 9, 0, 0, 0, 0))
        self.refused("more", 0, (9, 0, 0, 0, 0, 0))
        self.refused("tree", 0, (2, 0, 0, 0, 0, 0))
        self.refused("tree", 0, (2, 1, 9, 9, 9, 9))
        # Of one NUMBER: it falls, and is too few.
        self.refused("falls", 1, (1, 0, 0, 0, 0, 0))
        self.refused("falls", 5, (1, 3, 4, 4, 4, 1))

    def test_one_number_more_less_out_twice(self):
        for tree, row in ROWS:
            paper = tuple(many for many, _ in cuts(tree, row))
            for n, many in enumerate(paper):
                for other in (many + 1, many - 1, many + 2, 0, len(row), len(row) + 1, HUGE):
                    self.judged(tree, row, with_part(paper, n, other))
                self.refused("many", -1, paper[:n] + paper[n + 1:], tree=tree, row=row)
                self.refused("many", -1, paper[:n] + paper[n:n + 1] + paper[n:], tree=tree, row=row)

    def test_all_papers_of_small_rows(self):
        seen = set()
        for tree, row in ROWS[:7] + ROWS[9:]:
            size = len(cuts(tree, row))
            numbers = range(len(row) + 2) if size < 5 else sorted({0, 1, 2, len(row)})
            if size > 7:
                continue
            for paper in product(numbers, repeat=size):
                seen.add(self.judged(tree, row, paper))
        self.assertEqual(seen, {"let", "falls", "few", "more", "tree"})

    def test_small_changes(self):
        for thing in list(changed(PAPER)) + list(spoiled(PAPER)):
            self.judged(TREE, ROW, thing)

    def test_by_name_and_nothing_is_changed(self):
        self.assertEqual(lets_cuts(thing=PAPER, deeds=ROW, tree=TREE), 6)
        for thing in NEVER + [PAPER, list(PAPER), ([1], 3, 4, 4, 4, 6), (1, 3, 3, 4, 4, 6)]:
            kept = copy.deepcopy((TREE, ROW, thing))
            try:
                lets_cuts(TREE, ROW, thing)
            except NoPaper:
                pass
            self.assertEqual(repr((TREE, ROW, thing)), repr(kept))


if __name__ == "__main__":
    unittest.main()
