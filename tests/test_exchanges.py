"""[32], [33]: DEEDS that MAY BE EXCHANGED, EXCHANGES of a LINE."""

import copy
import unittest
from itertools import product

from drawerways.errors import NoPaper, PaperError
from drawerways.exchanges import lets_exchanges, may_exchange
from drawerways.serialchecker import lets_serial
from drawerways.spans import moments_by
from drawerways.tasks import in_order, trees_along
from drawerways.trees import EMPTY

from model import Model, modelled
from scenes import CROSSED, LOOKERS, MAKERS, SIX, comes
from things import CHAIN, DEEP, HUGE, NEVER, SHEETS, SMALL, TREES, deeds, deep, just_tuples


def may(tree, one, other):
    """Whether two DEEDS MAY BE EXCHANGED, by the model."""
    model, turned = Model(tree), Model(tree)
    first = {"one": model.do(one), "other": model.do(other)}
    second = {"other": turned.do(other), "one": turned.do(one)}
    return first == second and model.tree() == turned.tree()


class MayExchange(unittest.TestCase):
    def both(self, tree, one, other, due):
        self.assertIs(may_exchange(tree, one, other), due, (one, other))
        self.assertIs(may_exchange(tree, other=other, one=one), due)

    def test_two_that_turn_nothing(self):
        still = [deed for deed in deeds(("a", "b"), 1) if deed[0] in ("look", "list")]
        still += [("make", ("a",), "sheet"), ("drop", ("x",)), ("move", ("a",), ("a", "x")), ("swap", ("b",), ("b",))]
        for tree in TREES:
            quiet = [deed for deed in still if modelled(tree, deed)[0] == tree]
            self.assertTrue(len(quiet) > 8)
            for one in quiet:
                for other in quiet:
                    self.both(tree, one, other, True)

    def test_two_make(self):
        for tree in TREES:
            self.both(tree, ("make", ("x",), "sheet"), ("make", ("y",), "sheet"), False)
            self.both(tree, ("make", ("x",), "sheet"), ("make", ("x",), "sheet"), False)
            self.both(tree, ("make", ("x",), "drawer"), ("make", ("x", "x"), "sheet"), False)
        # One of both makes nothing, whichever is first.
        self.both(SMALL, ("make", ("a",), "sheet"), ("make", ("y",), "sheet"), True)
        self.both(SMALL, ("make", ("y",), "sheet"), ("make", ("b", "y"), "sheet"), True)

    def test_what_the_one_tells_is_the_others_doing(self):
        self.both(SMALL, ("look", ("b",)), ("drop", ("b",)), False)
        self.both(SMALL, ("drop", ("b",)), ("look", ("b",)), False)
        self.both(SMALL, ("list", ()), ("drop", ("b",)), False)
        self.both(SMALL, ("list", ("a",)), ("drop", ("b",)), True)
        self.both(SMALL, ("look", ("a",)), ("drop", ("b",)), True)
        self.both(SMALL, ("drop", ("b",)), ("drop", ("b",)), False)
        self.both(SMALL, ("move", ("b",), ("a", "b")), ("look", ("b",)), False)
        self.both(SMALL, ("move", ("b",), ("a", "b")), ("list", ("a",)), False)
        self.both(SMALL, ("move", ("b",), ("c",)), ("look", ("a",)), True)

    def test_all_tell_the_same_but_the_tree_is_another_one(self):
        tree = (((0, "drawer", (("a", 1), ("b", 2), ("c", 3))), (1, "sheet", ()), (2, "sheet", ()), (3, "sheet", ())), 4)
        one, other = ("move", ("a",), ("c",)), ("move", ("b",), ("c",))
        between, told_one = modelled(tree, one)
        end, told_other = modelled(between, other)
        between, told_other_first = modelled(tree, other)
        end_turned, told_one_last = modelled(between, one)
        self.assertEqual((told_one, told_other), (told_one_last, told_other_first))
        self.assertNotEqual(end, end_turned)
        self.both(tree, one, other, False)
        self.both(tree, other, one, False)

    def test_the_tree_is_the_same_but_one_tells_another_thing(self):
        one, other = ("drop", ("a",)), ("drop", ("a",))
        self.assertEqual(modelled(modelled(SHEETS, one)[0], other), modelled(modelled(SHEETS, other)[0], one))
        self.both(SHEETS, one, other, False)
        # Each turns both NODES about, and tells them in the order that it met.
        tree = (((0, "drawer", (("a", 1), ("b", 2))), (1, "sheet", ()), (2, "sheet", ())), 3)
        self.both(tree, ("swap", ("a",), ("b",)), ("swap", ("a",), ("b",)), False)
        self.both(SHEETS, ("drop", ("a",)), ("drop", ("b",)), True)
        self.both(SHEETS, ("drop", ("a",)), ("link", ("b",), ("d",)), True)
        self.both(SHEETS, ("drop", ("a",)), ("link", ("a",), ("d",)), False)

    def test_all_deeds_of_one_name(self):
        seen = set()
        every = deeds(("a", "b"), 1)
        for tree in TREES:
            for one in every:
                for other in every:
                    due = may(tree, one, other)
                    seen.add((one[0], other[0], due))
                    self.assertIs(may_exchange(tree, one, other), due, (tree, one, other))
        # But "make" and "make" (two that make), each pair of words was let and refused somewhere.
        self.assertTrue(len(seen) > 70, len(seen))

    def test_some_deeds_of_two_names(self):
        every = deeds(("a", "b", "c"), 2)
        for tree in (DEEP, CHAIN):
            for place, one in enumerate(every[::23]):
                for other in every[place % 7::7]:
                    self.assertIs(may_exchange(tree, one, other), may(tree, one, other), (tree, one, other))


# Four hands; TASKS side by side that may and that may not.
HANDS = (
    (("make", ("c",), "sheet"), ("look", ("c",))),
    (("look", ("a",)), ("drop", ("b",))),
    (("list", ("a",)),),
    (("make", ("a", "x"), "sheet"),),
)
LINE = ((0, 0), (1, 0), (1, 1), (2, 0), (3, 0), (0, 1))


class Exchanges(unittest.TestCase):
    def refused(self, word, at, thing, *, tree=SMALL, hands=HANDS, line=LINE):
        with self.assertRaises(NoPaper) as caught:
            lets_exchanges(tree, hands, line, thing)
        self.assertIs(type(caught.exception), NoPaper)
        self.assertIsInstance(caught.exception, PaperError)
        self.assertEqual((caught.exception.word, caught.exception.at), (word, at), thing)
        self.assertIs(type(caught.exception.at), int)

    def let(self, thing, due, *, tree=SMALL, hands=HANDS, line=LINE):
        found = lets_exchanges(tree, hands, line, thing)
        self.assertEqual(found, due)
        self.assertTrue(just_tuples(found))
        self.assertEqual(in_order(tree, hands, found), in_order(tree, hands, line))

    def test_void(self):
        self.let((), LINE)
        self.let((), (), line=())
        self.let((), LINE[:1], line=LINE[:1])
        self.let((), (), line=(), hands=(), tree=EMPTY)

    def test_one_place(self):
        self.let((0,), ((1, 0), (0, 0), (1, 1), (2, 0), (3, 0), (0, 1)))
        self.refused("hand", 0, (1,))
        self.let((2,), ((0, 0), (1, 0), (2, 0), (1, 1), (3, 0), (0, 1)))
        self.refused("other", 0, (3,))
        self.let((4,), ((0, 0), (1, 0), (1, 1), (2, 0), (0, 1), (3, 0)))

    def test_several(self):
        self.let((0, 0), LINE)
        self.let((0, 1), ((1, 0), (1, 1), (0, 0), (2, 0), (3, 0), (0, 1)))
        self.let((2, 1, 0), ((2, 0), (0, 0), (1, 0), (1, 1), (3, 0), (0, 1)))
        self.let((2, 3), ((0, 0), (1, 0), (2, 0), (3, 0), (1, 1), (0, 1)))
        self.let((4, 4), LINE)
        self.let((4, 2, 2, 4), LINE)
        self.let((0, 1, 2, 4), ((1, 0), (1, 1), (2, 0), (0, 0), (0, 1), (3, 0)))

    def test_behind_others(self):
        # What stands at a place is that of the LINE as those ahead left it.
        self.refused("other", 0, (3,))
        self.let((2, 3), ((0, 0), (1, 0), (2, 0), (3, 0), (1, 1), (0, 1)))
        hands = ((("look", ()),) * 2, (("look", ()),) * 2)
        line = ((0, 0), (1, 0), (0, 1), (1, 1))
        self.let((1,), ((0, 0), (0, 1), (1, 0), (1, 1)), hands=hands, line=line)
        for place in (0, 2):
            self.refused("hand", 1, (1, place), hands=hands, line=line)
        self.let((1, 1, 0), ((1, 0), (0, 0), (0, 1), (1, 1)), hands=hands, line=line)

    def test_on_the_tree_there(self):
        # With "b" still there the link is refused, so both turn nothing; behind its drop it isn't.
        hands = ((("drop", ("b",)),), (("link", ("s",), ("b",)),), (("look", ("b",)),))
        tree = (((0, "drawer", (("b", 1), ("s", 2))), (1, "sheet", ()), (2, "sheet", ())), 3)
        self.let((0,), ((2, 0), (1, 0), (0, 0)), tree=tree, hands=hands, line=((1, 0), (2, 0), (0, 0)))
        self.refused("other", 0, (1,), tree=tree, hands=hands, line=((0, 0), (1, 0), (2, 0)))

    def test_shape(self):
        for thing in [[], [0], None, True, False, 0, 1, -1, HUGE, "", "a", "0", deep(40, 0, list)]:
            self.refused("shape", -1, thing)
            self.refused("shape", -1, thing, line=())

    def test_place(self):
        odd = [thing for thing in NEVER] + [5, 6, HUGE, "a", (), (0,), (0, 1), [0], ((0, 0), (1, 0)), deep(39, 0)]
        for thing in odd:
            self.refused("place", 0, (thing,))
            self.refused("place", 0, (thing, 0, None))
            self.refused("place", 1, (0, thing))
            self.refused("place", 3, (2, 0, 0, thing, 1))
            self.refused("place", 0, (thing,), line=())
            self.refused("place", 0, (thing,), line=LINE[:1])
        for place in range(4):
            for many in range(place + 2):
                self.refused("place", 0, (place,), line=LINE[:many])
        self.refused("place", 0, (0,), line=())
        self.refused("place", 0, (0,), line=LINE[:1])
        self.let((0,), (LINE[1], LINE[0]), line=LINE[:2])

    def test_the_first_of_several(self):
        self.refused("hand", 0, (1, None, 3))
        self.refused("other", 0, (3, None, 1))
        self.refused("place", 1, (0, None, 3))
        self.refused("other", 1, (0, 3, 9))
        self.refused("hand", 2, (0, 0, 1, 9, None))
        # Two of one hand that may not: the hand goes first.
        self.refused("hand", 0, (0,), hands=((("drop", ("b",)), ("look", ("b",))),), line=((0, 0), (0, 1)))

    def test_all_of_some_places(self):
        words = set()
        for (tree, hands, _), line in (
            ((SMALL, HANDS, ()), LINE),
            (SIX, ((0, 0), (1, 0), (2, 0), (0, 1), (2, 1), (1, 1))),
            (CROSSED, ((1, 0), (0, 0), (0, 1), (1, 1))),
            (MAKERS, ((2, 0), (1, 0), (0, 0))),
            (LOOKERS, ((0, 0), (1, 0), (2, 0), (0, 1))),
        ):
            for many in range(4):
                for places in product(range(len(line)), repeat=many):
                    due = self.due(tree, hands, line, places)
                    words.add(due[0])
                    if due[0] == "line":
                        self.let(places, due[1], tree=tree, hands=hands, line=line)
                    else:
                        self.refused(due[0], due[1], places, tree=tree, hands=hands, line=line)
        self.assertEqual(words, {"line", "place", "hand", "other"})

    def due(self, tree, hands, line, places):
        at = list(line)
        for i, place in enumerate(places):
            if place + 1 >= len(at):
                return "place", i
            (one_hand, one), (other_hand, other) = at[place:place + 2]
            if one_hand == other_hand:
                return "hand", i
            if not may(comes(tree, hands, at[:place])[1], hands[one_hand][one], hands[other_hand][other]):
                return "other", i
            at[place:place + 2] = [at[place + 1], at[place]]
        return "line", tuple(at)

    def test_what_comes_is_handed_in_again(self):
        # Each hand's TASKS stand one behind the other, else all are there at once.
        spans = (((0, 0), 0, 9), ((0, 1), 10, 19), ((1, 0), 0, 9), ((1, 1), 10, 19), ((2, 0), 0, 19), ((3, 0), 0, 19))
        results, end = in_order(SMALL, HANDS, LINE)
        for places in ((), (0,), (2,), (0, 0), (2, 4), (2, 3), (4, 2, 3)):
            line = lets_exchanges(SMALL, HANDS, LINE, places)
            self.assertEqual(lets_exchanges(SMALL, HANDS, line, places[::-1]), LINE)
            self.assertEqual(trees_along(SMALL, HANDS, line)[-1], end)
            self.assertIs(lets_serial(SMALL, HANDS, spans, results, end, line), True)
            self.assertEqual([task for task, _ in moments_by(spans, line)], list(line))

    def test_by_name(self):
        self.assertEqual(lets_exchanges(thing=(), line=LINE, hands=HANDS, tree=SMALL), LINE)

    def test_nothing_is_changed(self):
        for thing in NEVER + [(0,), (2, 1, 0), [0], ([0],), (1,), (3,)]:
            kept = copy.deepcopy((thing, SMALL, HANDS, LINE))
            try:
                lets_exchanges(SMALL, HANDS, LINE, thing)
            except NoPaper:
                pass
            self.assertEqual(repr((thing, SMALL, HANDS, LINE)), repr(kept))


if __name__ == "__main__":
    unittest.main()
