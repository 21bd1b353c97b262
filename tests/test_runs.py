"""[58]: SCHEDULES, ROUNDS, and how many of these are enough."""

import copy
import unittest
from itertools import permutations

from drawerways.errors import NoHand
from drawerways.runs import LIMIT, rounds, run, until_quiet
from drawerways.states import begun, is_quiet, tree_of

from draws import drawn
from model import Model
from scripts import stepped, told_alone
from things import BESIDE, DEEP, HUGE, SMALL, just_tuples

HANDS = (
    (("move", ("b",), ("a", "c")), ("look", ("b",))),
    (("drop", ("a",)),),
    (),
    (("list", ()), ("make", ("a", "d"), "drawer")),
)

START = begun(SMALL, HANDS)


class Run(unittest.TestCase):
    def runs(self, state, schedule, many, **more):
        """It has to be the STEPS of the first so many hands of the SCHEDULE."""
        found = run(state, schedule, **more)
        self.assertIs(type(found), tuple)
        due, events = stepped(state, schedule[:many])
        self.assertEqual(found, (due, tuple(events)))
        self.assertTrue(just_tuples(found))
        return found

    def test_some_schedules(self):
        for schedule in ((), (0,), (0, 1, 2, 3), (3, 3, 3, 1, 0, 1, 2, 2, 0, 0), (0,) * 30, (0, 1, 3) * 20):
            self.runs(START, schedule, len(schedule))
            self.runs(START, schedule, len(schedule), most=HUGE)
            self.runs(START, schedule, len(schedule), most=len(schedule))

    def test_most(self):
        schedule = (0, 1, 3, 0, 0, 3, 1, 2, 0, 3)
        for most in range(13):
            state, log = self.runs(START, schedule, most, most=most)
            self.assertEqual(len(log), min(most, 10))
        self.assertEqual(run(START, schedule, most=0), (START, ()))
        self.assertEqual(run(START, (), most=0), (START, ()))

    def test_longer_than_the_limit(self):
        self.assertEqual(LIMIT, 400)
        self.assertIs(type(LIMIT), int)
        schedule = (0, 1, 2, 3) * 150
        state, log = self.runs(START, schedule, 400)
        self.assertEqual(len(log), 400)
        self.assertEqual(len(self.runs(START, schedule, 600, most=600)[1]), 600)
        self.assertEqual(len(self.runs(START, schedule, 401, most=401)[1]), 401)
        self.assertEqual(len(self.runs(START, schedule[:400], 400)[1]), 400)

    def test_a_hand_that_there_is_none(self):
        for schedule, hand in (
            ((4,), 4), ((0, 1, 4, 0), 4), ((-1,), -1), ((0, -4, 9), -4), ((0, 9, -4), 9), ((HUGE, 4), HUGE),
            ((3,) * 20 + (-HUGE,), -HUGE), ((0,) * 500 + (4,), 4),
        ):
            for more in ({}, {"most": 0}, {"most": 1}, {"most": 2}, {"most": HUGE}):
                kept = copy.deepcopy(START)
                with self.assertRaises(NoHand) as caught:
                    run(START, schedule, **more)
                self.assertIs(type(caught.exception), NoHand)
                self.assertEqual(caught.exception.hand, hand)
                self.assertEqual(START, kept)
        with self.assertRaises(NoHand):
            run(begun(SMALL, ()), (0,))
        with self.assertRaises(NoHand):
            run(begun(SMALL, ()), (0,), most=0)

    def test_the_very_thing(self):
        hand = 10 ** 60
        with self.assertRaises(NoHand) as caught:
            run(START, (0, hand))
        self.assertIs(caught.exception.hand, hand)

    def test_one_behind_the_other(self):
        for tree, hands, schedule in drawn(60, first=40):
            state = begun(tree, hands)
            whole = run(state, schedule)
            for cut in (0, 1, len(schedule) // 2, len(schedule)):
                between, first = run(state, schedule[:cut])
                end, second = run(between, schedule[cut:])
                self.assertEqual((end, first + second), whole)

    def test_by_name(self):
        self.assertEqual(run(most=2, schedule=(0, 1, 3), state=START), run(START, (0, 1)))
        with self.assertRaises(TypeError):
            run(START, (0,), 1)


class UntilQuiet(unittest.TestCase):
    def quiet(self, state, order, found):
        """It has to be ROUND by ROUND in this order, each whole, none more."""
        due, log, many = state, [], 0
        while not is_quiet(due):
            due, events = stepped(due, order)
            log += events
            many += 1
        self.assertEqual(found, (due, tuple(log), many))
        self.assertTrue(just_tuples(found) and len(found) == 3)

    def test_each_order(self):
        self.quiet(START, (0, 1, 2, 3), until_quiet(START))
        self.quiet(START, (0, 1, 2, 3), until_quiet(START, by=()))
        for order in permutations(range(4)):
            self.quiet(START, order, until_quiet(START, by=order))

    def test_quiet_already(self):
        for hands in ((), ((),), ((), (), ())):
            state = begun(BESIDE, hands)
            self.assertEqual(until_quiet(state), (state, (), 0))
            self.assertEqual(until_quiet(state, by=tuple(range(len(hands)))), (state, (), 0))
        end, _, _ = until_quiet(START)
        self.assertEqual(until_quiet(end), (end, (), 0))
        self.assertEqual(until_quiet(end, by=(3, 1, 0, 2)), (end, (), 0))

    def test_the_last_round_is_done_whole(self):
        state, log, many = until_quiet(begun(SMALL, ((("look", ()),), ())), by=(0, 1))
        self.assertEqual(log, ((0, "begin", 0, 0), (1, "rests"), (0, "told", 0, ("found", "drawer", 0)), (1, "rests")))
        self.assertEqual(many, 2)

    def test_from_the_midst(self):
        for tree, hands, schedule in drawn(80, first=200):
            state, _ = run(begun(tree, hands), schedule)
            self.quiet(state, tuple(range(len(hands))), until_quiet(state))
            order = tuple(reversed(range(len(hands))))
            self.quiet(state, order, until_quiet(by=order, state=state))

    def test_order_by_its_name_alone(self):
        with self.assertRaises(TypeError):
            until_quiet(START, (0, 1, 2, 3))

    def test_nothing_is_changed(self):
        kept = copy.deepcopy(START)
        until_quiet(START)
        run(START, (0, 1, 0, 1, 3))
        self.assertEqual(repr(START), repr(kept))


class Rounds(unittest.TestCase):
    def test_the_number(self):
        for deeds, hands, names, many in (
            (0, 0, 0, 14), (0, 4, 4, 22), (1, 1, 0, 42), (1, 1, 1, 48), (10, 4, 4, 1122), (3, 2, 1, 160), (2, 5, 3, 260),
        ):
            self.assertEqual(rounds(deeds=deeds, hands=hands, names=names), many)
            self.assertEqual(rounds(names=names, hands=hands, deeds=deeds), many)
        with self.assertRaises(TypeError):
            rounds(1, 2, 3)

    def test_by_no_more_it_is_quiet(self):
        for tree, hands, schedule in drawn(200, first=600):
            deeds = [deed for own in hands for deed in own]
            names = max([len(part) for deed in deeds for part in deed[1:] if type(part) is tuple], default=0)
            enough = rounds(deeds=len(deeds), hands=len(hands), names=names)
            for state in (begun(tree, hands), run(begun(tree, hands), schedule)[0]):
                for order in (tuple(range(len(hands))), tuple(reversed(range(len(hands))))):
                    end, _, many = until_quiet(state, by=order)
                    self.assertTrue(is_quiet(end))
                    self.assertLessEqual(many, enough)

    def test_alone_all_is_as_one_behind_the_other(self):
        # One hand after another: each DEED tells what it tells by the model.
        for tree, hands, _ in drawn(150, first=900):
            state, model = begun(tree, hands), Model(tree)
            for hand, deeds in enumerate(hands):
                for k, deed in enumerate(deeds):
                    state, events = told_alone(state, hand)
                    self.assertEqual(events[-1], (hand, "told", k, model.do(deed)))
            self.assertTrue(is_quiet(state))
            self.assertEqual(tree_of(state), model.tree())


if __name__ == "__main__":
    unittest.main()
