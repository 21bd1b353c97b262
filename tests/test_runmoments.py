"""[63], [64], [66]: MOMENTS, ORDER and END of RUNS."""

import copy
import unittest

from drawerways.deeds import done
from drawerways.momentchecker import lets_moments
from drawerways.runmoments import end_of, moments_of, run_order
from drawerways.runs import run
from drawerways.serialchecker import lets_serial
from drawerways.spansof import results_of, spans_of
from drawerways.states import begun, tree_of
from drawerways.tasks import in_order, trees_along

from draws import drawn
from logged import MEETING, all_logs, logged, moments, states_along
from scripts import stepped_through
from things import BESIDE, CHAIN, DEEP, SMALL, just_tuples

TURNED = ("made", "dropped", "linked", "moved", "swapped")


class Moments(unittest.TestCase):
    def told(self, tree, hands, schedule, *due):
        """The MOMENTS of a RUN by a SCHEDULE."""
        state, log = run(begun(tree, hands), schedule)
        found = moments_of(tree, hands, log)
        self.assertEqual(found, due, log)
        self.assertTrue(just_tuples(found))
        self.assertEqual(run_order(tree, hands, log), tuple(task for task, _, _ in due))
        self.right(tree, hands, log)
        return log

    def right(self, tree, hands, log):
        """What [64] says of any beginning of a LOG."""
        spans, results = spans_of(tree, hands, log), results_of(tree, hands, log)
        order, end = run_order(tree, hands, log), end_of(tree, hands, log)
        self.assertTrue(just_tuples(order) and just_tuples(end))
        self.assertIs(lets_serial(tree, hands, spans, results, end, order), True)
        self.assertEqual(lets_moments(tree, hands, log, moments_of(tree, hands, log)), len(results))
        self.assertEqual(in_order(tree, hands, order), (results, end))

    def test_none(self):
        for hands in ((), ((),), ((("look", ()),),)):
            self.told(SMALL, hands, ())
            self.assertEqual(end_of(SMALL, hands, ()), SMALL)
        self.told(SMALL, ((("look", ("a",)),), ()), (0, 1, 0, 1))

    def test_told_under_locks(self):
        # Whether something was turned or not: behind its own "told".
        for deed, many in (
            (("list", ("a",)), 4), (("make", ("b",), "sheet"), 3), (("make", ("a", "b"), "sheet"), 4),
            (("drop", ("x",)), 3), (("drop", ("b",)), 3), (("drop", ("a",)), 5),
            (("link", ("a",), ("c",)), 4), (("link", ("b",), ("c",)), 4), (("move", ("x",), ("c",)), 4),
            (("swap", ("a",), ("x",)), 4), (("move", ("a",), ("a", "x")), 6), (("swap", ("a",), ("b",)), 9),
            (("move", ("b",), ("a", "x")), 11),
        ):
            self.told(SMALL, ((), (deed,)), (0, 0) + (1,) * many, ((1, 0), many + 1, 1))
        self.told(BESIDE, ((("drop", ("a",)),),), (0,) * 5, ((0, 0), 4, 1))
        self.told(BESIDE, ((("move", ("a",), ("b",)),),), (0,) * 6, ((0, 0), 5, 1))

    def test_told_by_a_walk(self):
        hands = ((), (("look", ("a",)),), (("look", ("b", "x")),), (("look", ("a", "x")),), (("look", ()),))
        self.told(
            SMALL, hands, (1, 0, 1, 4, 2, 2, 3, 3, 3, 4, 3, 2, 1),
            ((1, 0), 2, 1), ((4, 0), 3, 1), ((2, 0), 5, 1), ((3, 0), 8, 1))
        for deed in (("list", ("b",)), ("list", ("x",)), ("make", ("b", "x"), "sheet"), ("drop", ("x", "y"))):
            self.told(SMALL, ((deed,), ()), (0, 1, 0, 1, 0), ((0, 0), 2, 1))
        for word in ("link", "move", "swap"):
            self.told(SMALL, (((word, ("b", "x"), ("a",)),), ()), (0, 0, 1, 0, 1, 0), ((0, 0), 3, 1))
            self.told(SMALL, (((word, ("a", "x"), ("b", "y")),), ()), (0, 0, 0, 1, 0, 1, 0), ((0, 0), 4, 1))
            self.told(SMALL, (((word, ("a", "x"), ("x", "y")),), ()), (0, 0, 0, 1, 0, 1, 0), ((0, 0), 4, 1))

    def test_a_sheet_of_the_first_name_and_of_a_later_one(self):
        # That the walk stood at a sheet was plain at the NAME ahead of the one that couldn't be read.
        self.told(SMALL, ((("look", ("b", "x", "y", "z")),),), (0, 0, 0), ((0, 0), 1, 1))
        self.told(BESIDE, ((("look", ("a", "c", "y", "z")),),), (0, 0, 0, 0), ((0, 0), 2, 1))
        self.told(BESIDE, ((("list", ("b", "a")),), ()), (0, 0, 1, 0, 1, 0), ((0, 0), 3, 1))
        self.told(BESIDE, ((("make", ("b", "a", "x"), "sheet"),), ()), (0, 0, 1, 0, 1, 0), ((0, 0), 3, 1))

    def test_a_look_of_the_top(self):
        hands = ((("look", ()), ("look", ())), (("make", ("c",), "sheet"),))
        self.told(
            SMALL, hands, (0, 1, 1, 1, 0, 0, 0), ((0, 0), 0, 1), ((1, 0), 3, 1), ((0, 1), 5, 1))

    def test_the_last_attempt_counts(self):
        hands = ((("look", ("b",)),), (("move", ("b",), ("c",)),))
        self.told(SMALL, hands, (0, 0) + (1,) * 9 + (0,) * 4, ((1, 0), 10, 1), ((0, 0), 13, 1))
        # Held in the first attempt, not in the last one.
        hands = ((("list", ("b",)),), (("swap", ("a",), ("b",)),))
        log = self.told(SMALL, hands, (1,) + (0,) * 2 + (1,) * 8 + (0,) * 9, ((1, 0), 10, 1), ((0, 0), 15, 1))
        self.assertEqual(log[11], (0, "again", 0, "turn"))
        hands = ((("list", ("a",)),), (("swap", ("a",), ("b",)),))
        log = self.told(SMALL, hands, (0,) * 3 + (1,) * 9 + (0,) * 4, ((1, 0), 11, 1), ((0, 0), 14, 1))
        self.assertEqual([event[1] for event in log if event[0] == 0], [
            "begin", "walk", "locks", "again", "begin", "walk", "told"])

    def test_a_drawer_that_lived_no_more(self):
        # The walk comes to 1, which is dropped; then the NAME isn't there: just ahead of the drop it wasn't either.
        hands = ((("look", ("a", "x")),), (("drop", ("a",)),), (("make", ("a",), "sheet"),))
        log = self.told(
            SMALL, hands, (0, 0) + (1,) * 5 + (2,) * 3 + (0, 0), ((0, 0), 6, 0), ((1, 0), 6, 1), ((2, 0), 9, 1))
        self.assertEqual(log[6], (1, "told", 0, ("dropped", 1)))
        self.assertEqual(log[10], (0, "walk", 1, None))

    def test_several_that_were_in_it(self):
        hands = (
            (("look", ("a", "x", "y")),), (("drop", ("a",)),), (("list", ("a", "z")),), (("make", ("a", "q", "r"), "sheet"),),
        )
        self.told(
            SMALL, hands, (3, 3, 0, 0, 2, 2) + (1,) * 5 + (2, 2, 0, 0, 3, 3),
            ((0, 0), 10, 0), ((2, 0), 10, 0), ((3, 0), 10, 0), ((1, 0), 10, 1))

    def test_a_drawer_far_within_that_lived_no_more(self):
        hands = ((("look", ("a", "a", "a", "a", "x")),), (("drop", ("a",) * 4), ("drop", ("a",) * 3)))
        log = self.told(
            CHAIN, hands, (0,) * 5 + (1,) * 15 + (0, 0), ((0, 0), 12, 0), ((1, 0), 12, 1), ((1, 1), 19, 1))
        self.assertEqual([event[3] for event in log if event[1] == "told"], [
            ("dropped", 6), ("dropped", 1), ("none", 4)])

    def test_a_drawer_dropped_behind_the_walk(self):
        # The NAME was looked for while the drawer lived: the "walk" counts, whatever came of the drawer.
        hands = ((("look", ("a", "x")),), (("drop", ("a",)),))
        self.told(SMALL, hands, (0, 0, 0) + (1,) * 5 + (0,), ((0, 0), 2, 1), ((1, 0), 7, 1))

    def test_a_sheet_dropped_is_no_drawer_that_lived_no_more(self):
        hands = ((("look", ("b",)), ("look", ("b",)), ("look", ("c",))), (("drop", ("b",)),))
        self.told(
            SMALL, hands, (0, 0, 1, 1, 1, 0, 0, 0, 0, 0, 0, 0),
            ((0, 0), 1, 1), ((1, 0), 4, 1), ((0, 1), 7, 1), ((0, 2), 10, 1))

    def test_of_two_ways_told_under_locks_behind_one_dead(self):
        hands = ((("link", ("b",), ("a", "x")),), (("drop", ("a",)),))
        log = self.told(SMALL, hands, (0, 0, 0) + (1,) * 5 + (0,) * 6, ((1, 0), 7, 1), ((0, 0), 12, 1))
        self.assertEqual(log[10], (0, "again", 0, "dead"))
        self.assertEqual(log[13], (0, "told", 0, ("none", 0, 1)))

    def test_all_ways_to_do_few_steps(self):
        several, zeros = 0, 0
        for tree, hands in MEETING:
            seen = set()
            for many, log in enumerate(all_logs(tree, hands)):
                if many % 3 == 0 or many < 200:
                    self.right(tree, hands, log)
                    found = moments_of(tree, hands, log)
                    if many % 9 == 0:
                        self.assertEqual(found, moments(tree, hands, log))
                    zeros += any(side == 0 for _, _, side in found)
                    seen.add(results_of(tree, hands, log))
            several += len(seen) > 1
        self.assertGreater(several, 8)
        self.assertGreater(zeros, 50)

    def test_drawn(self):
        for tree, hands, schedule in drawn(300, first=11):
            state, log = stepped_through(begun(tree, hands), schedule)
            log = tuple(log)
            self.right(tree, hands, log)
            self.assertEqual(moments_of(tree, hands, log), moments(tree, hands, log))
            self.assertEqual(end_of(tree, hands, log), tree_of(state))

    def test_behind_each_event(self):
        odd = 0
        for tree, hands, schedule in drawn(90, first=1234):
            _, log = stepped_through(begun(tree, hands), schedule)
            log = tuple(log[:150])
            ahead = ()
            for many, state in enumerate(states_along(tree, hands, log)):
                part = log[:many]
                self.right(tree, hands, part)
                order = run_order(tree, hands, part)
                # Those that are THROUGH stay, and which of two is ahead of the other.
                self.assertEqual(tuple(task for task in order if task in ahead), ahead)
                ahead = order
                if state[4] % 2 == 0:
                    self.assertEqual(end_of(tree, hands, part), tree_of(state))
                else:
                    # Nothing of what is being moved is of a DEED that is THROUGH.
                    odd += 1
                    self.assertEqual(end_of(tree, hands, part), tree_of(before_the_turn(tree, hands, part)))
        self.assertGreater(odd, 20)

    def test_of_several_runs(self):
        for tree, hands, schedule in drawn(60, first=777):
            state, first = run(begun(tree, hands), schedule[:9])
            state, second = run(state, schedule[9:])
            log = first + second
            self.right(tree, hands, log)
            self.assertEqual(moments_of(tree, hands, log), moments(tree, hands, log))
            self.assertEqual(moments_of(tree, hands, log), moments_of(tree, hands, run(begun(tree, hands), schedule)[1]))

    def test_each_tells_what_the_tree_at_its_moment_had(self):
        for tree, hands, schedule in drawn(150, first=4321):
            _, log = stepped_through(begun(tree, hands), schedule)
            told_by = dict(results_of(tree, hands, tuple(log)))
            order = run_order(tree, hands, tuple(log))
            for (hand, k), at in zip(order, trees_along(tree, hands, order)):
                newer, told = done(at, hands[hand][k])
                self.assertEqual(told, told_by[hand, k])
                if told[0] not in TURNED:
                    self.assertEqual(newer, at)

    def test_by_name_and_nothing_is_changed(self):
        hands = ((("move", ("b",), ("a", "c")),), (("drop", ("c",)), ("look", ("a", "c"))))
        log = logged(DEEP, hands)
        kept = copy.deepcopy((DEEP, hands, log))
        for call in (moments_of, run_order, end_of):
            self.assertEqual(call(log=log, hands=hands, tree=DEEP), call(DEEP, hands, log))
        self.assertEqual(repr((DEEP, hands, log)), repr(kept))


def before_the_turn(tree, hands, log):
    """The last STATE along a LOG whose TURN was even: others can turn nothing behind it."""
    return [state for state in states_along(tree, hands, log) if state[4] % 2 == 0][-1]


if __name__ == "__main__":
    unittest.main()
