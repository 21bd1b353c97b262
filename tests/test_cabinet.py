"""[69] to [72]: cabinets."""

import copy
import random
import unittest

from drawerways.cabinet import Cabinet
from drawerways.cutting import cut
from drawerways.errors import NoBack, NoHand, NoStep, RunError
from drawerways.eventtexts import shown_event, shown_log
from drawerways.runmoments import end_of
from drawerways.runs import LIMIT, run, until_quiet
from drawerways.states import begun, is_quiet, tree_of
from drawerways.steps import step
from drawerways.trees import EMPTY

from draws import drawn
from logged import states_along
from model import modelled
from things import BESIDE, DEEP, HUGE, NEVER, SMALL, TREES, deep, just_tuples

HANDS = (
    (("move", ("b",), ("a", "c")), ("look", ("b",))),
    (("drop", ("a",)),),
    (),
    (("list", ()), ("make", ("a", "d"), "drawer")),
)

SCHEDULE = (0, 1, 3, 0, 0, 3, 3, 2, 0, 0, 3, 0, 0, 0, 3, 0, 0, 1)


def filled(schedule=SCHEDULE, tree=SMALL, hands=HANDS):
    cabinet = Cabinet(tree, hands=hands)
    cabinet.run(schedule)
    return cabinet


class Told(unittest.TestCase):
    def is_at(self, cabinet, tree, hands, log):
        """All that a cabinet tells of itself."""
        states = states_along(tree, hands, log)
        for found, due in (
            (cabinet.tree_first(), tree), (cabinet.hands_first(), hands), (cabinet.log_now(), log),
            (cabinet.state_now(), states[-1]),
        ):
            self.assertEqual(found, due)
            self.assertTrue(just_tuples(found))
        self.assertEqual(len(cabinet), len(log))
        self.assertEqual(str(cabinet), shown_log(log))
        return states

    def refused(self, cabinet, refusal, field, thing, call):
        """It is refused, with the very thing, and nothing is done."""
        ahead = cabinet.tree_first(), cabinet.hands_first(), cabinet.log_now()
        with self.assertRaises(refusal) as caught:
            call()
        self.assertIs(type(caught.exception), refusal)
        self.assertIsInstance(caught.exception, RunError)
        self.assertIs(getattr(caught.exception, field), thing)
        self.is_at(cabinet, *ahead)


class Steps(Told):
    def test_fresh(self):
        for tree in TREES:
            for hands in ((), ((),), HANDS):
                self.is_at(Cabinet(tree, hands=hands), tree, hands, ())
            self.is_at(Cabinet(tree), tree, (), ())
            self.is_at(Cabinet(hands=(), tree=tree), tree, (), ())
        with self.assertRaises(TypeError):
            Cabinet(SMALL, HANDS)

    def test_step(self):
        cabinet, state, log = Cabinet(SMALL, hands=HANDS), begun(SMALL, HANDS), ()
        for hand in SCHEDULE + (2, 1, 1, 1, 1, 3):
            state, event = step(state, hand)
            log += (event,)
            self.assertEqual(cabinet.step(hand), event)
            self.is_at(cabinet, SMALL, HANDS, log)
        self.assertEqual(cabinet.step(hand=0)[0], 0)

    def test_step_of_a_hand_that_there_is_none(self):
        for cabinet in (filled(), Cabinet(SMALL), Cabinet(BESIDE, hands=HANDS)):
            for thing in NEVER + [4, 5, HUGE, "a", "0", (0,), [0], (), deep(40)]:
                self.refused(cabinet, NoHand, "hand", thing, lambda: cabinet.step(thing))
        self.refused(Cabinet(SMALL), NoHand, "hand", 0, lambda: Cabinet(SMALL).step(0))

    def test_run(self):
        for more in ({}, {"most": 0}, {"most": 1}, {"most": 7}, {"most": 18}, {"most": HUGE}):
            cabinet = Cabinet(SMALL, hands=HANDS)
            _, log = run(begun(SMALL, HANDS), SCHEDULE, **more)
            found = cabinet.run(SCHEDULE, **more)
            self.assertEqual(found, log)
            self.assertTrue(just_tuples(found))
            self.is_at(cabinet, SMALL, HANDS, log)
            # On from there.
            state, _ = run(begun(SMALL, HANDS), SCHEDULE, **more)
            self.assertEqual(cabinet.run((3, 0)), run(state, (3, 0))[1])

    def test_run_longer_than_the_limit(self):
        cabinet = Cabinet(SMALL, hands=HANDS)
        self.assertEqual(len(cabinet.run((0, 1, 2, 3) * 120)), LIMIT)
        self.assertEqual(len(cabinet), 400)
        self.assertEqual(cabinet.run(()), ())
        self.assertEqual(cabinet.run(most=3, schedule=(0,) * 401), ((0, "rests"),) * 3)
        self.assertEqual(len(cabinet), 403)

    def test_run_with_a_hand_that_there_is_none(self):
        cabinet = filled()
        for schedule, place in (((0, 4), 1), ((-1,), 0), ((0, 1, HUGE, 4), 2), ((0,) * 500 + (-7,), 500)):
            for more in ({}, {"most": 0}, {"most": 1}):
                hand = schedule[place]
                self.refused(cabinet, NoHand, "hand", hand, lambda: cabinet.run(schedule, **more))

    def test_until_quiet(self):
        for by in ((), (0, 1, 2, 3), (3, 1, 0, 2), (2, 3, 1, 0)):
            cabinet = filled()
            state, log, many = until_quiet(cabinet.state_now(), by=by)
            ahead = cabinet.log_now()
            self.assertEqual(cabinet.until_quiet(by=by), many)
            self.is_at(cabinet, SMALL, HANDS, ahead + log)
            self.assertTrue(is_quiet(cabinet.state_now()))
            self.assertEqual(cabinet.until_quiet(), 0)
            self.assertEqual(cabinet.until_quiet(by=by), 0)
        self.assertEqual(Cabinet(SMALL).until_quiet(), 0)
        self.assertEqual(Cabinet(SMALL, hands=((), ())).until_quiet(by=(1, 0)), 0)
        with self.assertRaises(TypeError):
            Cabinet(SMALL).until_quiet(())

    def test_in_pieces(self):
        for tree, hands, schedule in drawn(60, first=220):
            one, other = Cabinet(tree, hands=hands), Cabinet(tree, hands=hands)
            one.run(schedule, most=HUGE)
            for place, hand in enumerate(schedule):
                if place % 3:
                    other.step(hand)
                else:
                    other.run((hand,))
            self.assertEqual(one.log_now(), other.log_now())
            self.assertTrue(one == other)
            self.assertEqual(one.until_quiet(), other.until_quiet())
            self.is_at(one, tree, hands, other.log_now())


class Back(Told):
    def test_back(self):
        whole = filled().log_now()
        for times in (1, 2, 5, len(whole) - 1, len(whole)):
            cabinet = filled()
            found = cabinet.back(times)
            self.assertEqual(found, whole[-times:])
            self.assertTrue(just_tuples(found))
            self.is_at(cabinet, SMALL, HANDS, whole[:-times])
            # As if they had never been.
            self.assertTrue(cabinet == filled(SCHEDULE[:-times]))
            self.assertEqual(cabinet.run(SCHEDULE[-times:]), found)
            self.is_at(cabinet, SMALL, HANDS, whole)

    def test_left_out(self):
        cabinet = filled()
        whole = cabinet.log_now()
        for many in range(len(whole)):
            self.assertEqual(cabinet.back(), whole[-many - 1:len(whole) - many])
        self.is_at(cabinet, SMALL, HANDS, ())
        self.refused_back(cabinet, 1, cabinet.back)
        self.assertEqual(filled().back(times=3), whole[-3:])

    def refused_back(self, cabinet, times, call):
        with self.assertRaises(NoBack) as caught:
            call()
        self.assertEqual(caught.exception.times, times)
        self.assertIs(type(caught.exception.times), type(times))
        self.assertEqual(len(cabinet), 0)

    def test_refused(self):
        cabinet = filled()
        for thing in NEVER + [0, len(cabinet) + 1, HUGE, "a", "1", (1,), [1], (), deep(40), -2]:
            self.refused(cabinet, NoBack, "times", thing, lambda: cabinet.back(thing))
        for thing in (0, 1, True, HUGE):
            fresh = Cabinet(SMALL)
            self.refused(fresh, NoBack, "times", thing, lambda: fresh.back(thing))

    def test_something_else_behind(self):
        cabinet = filled()
        cabinet.back(9)
        cabinet.run((1, 1, 1, 3, 3, 0))
        self.is_at(cabinet, SMALL, HANDS, run(begun(SMALL, HANDS), SCHEDULE[:9] + (1, 1, 1, 3, 3, 0))[1])
        self.assertFalse(cabinet == filled())


class Then(Told):
    def test_then_and_cut_at(self):
        cabinet = filled()
        states = states_along(SMALL, HANDS, cabinet.log_now())
        journals = 0
        for k, state in enumerate(states):
            for found in (cabinet.then(k), cabinet.then(k=k)):
                self.assertEqual(found, state)
                self.assertTrue(just_tuples(found))
            for found in (cabinet.cut_at(k), cabinet.cut_at(k=k)):
                self.assertEqual(found, cut(state))
                self.assertTrue(just_tuples(found))
            journals += state[1][2] is not None
        self.assertGreater(journals, 3)
        self.assertEqual(cabinet.then(0), begun(SMALL, HANDS))
        self.assertEqual(cabinet.then(len(cabinet)), cabinet.state_now())
        self.is_at(cabinet, SMALL, HANDS, cabinet.log_now())

    def test_refused(self):
        for cabinet in (filled(), Cabinet(SMALL)):
            for thing in NEVER + [len(cabinet) + 1, HUGE, "a", "0", (0,), [0], (), deep(40), -len(cabinet) - 1]:
                for call in (cabinet.then, cabinet.cut_at):
                    with self.assertRaises(NoStep) as caught:
                        call(thing)
                    self.assertIs(type(caught.exception), NoStep)
                    self.assertEqual(caught.exception.word, "number")
            self.assertEqual(cabinet.cut_at(0), SMALL)

    def test_what_a_cut_leaves(self):
        # END of those THROUGH by then, or that with the DEED whose JOURNAL stands.
        stood = 0
        for tree, hands, schedule in drawn(150, first=5150):
            cabinet = filled(schedule, tree, hands)
            log = cabinet.log_now()
            for k in range(0, len(cabinet) + 1):
                hands_then, (_, _, journal), _, key, _, rows = cabinet.then(k)
                due = end_of(tree, hands, log[:k])
                if journal is not None:
                    stood += 1
                    due, told = modelled(due, hands_then[key][rows[key][0]])
                    self.assertIn(told[0], ("moved", "swapped"))
                self.assertEqual(cabinet.cut_at(k), due)
        self.assertGreater(stood, 50)


class Looks(Told):
    def test_look(self):
        cabinet = Cabinet(SMALL, hands=((("make", ("a", "x"), "sheet"), ("drop", ("b",))),))
        for _ in range(3):
            self.assertEqual(cabinet.look(("a", "x")), ("none", 1))
            self.assertEqual(cabinet.look(way=("b",)), ("found", "sheet", 3))
        cabinet.until_quiet()
        for _ in range(2):
            self.assertEqual(cabinet.look(("a", "x")), ("found", "sheet", 4))
            self.assertEqual(cabinet.look(("b",)), ("none", 0))
            self.assertEqual(cabinet.look(()), ("found", "drawer", 0))
        cabinet.back(1)
        self.assertEqual(cabinet.look(("b",)), ("found", "sheet", 3))
        cabinet.back(len(cabinet))
        self.assertEqual(cabinet.look(("a", "x")), ("none", 1))
        self.assertEqual(len(cabinet), 0)

    def test_an_odd_turn(self):
        cabinet = filled(SCHEDULE + (0, 1))
        odd = [k for k in range(len(cabinet) + 1) if cabinet.then(k)[4] % 2]
        self.assertEqual(odd, [14, 15, 16, 17, 18])
        while len(cabinet) >= odd[0]:
            if len(cabinet) in odd:
                with self.assertRaises(NoStep) as caught:
                    cabinet.look(("a",))
                self.assertEqual(caught.exception.word, "turn")
            else:
                self.assertEqual(cabinet.look(("a",)), ("found", "drawer", 1))
            cabinet.back()
        self.assertEqual(cabinet.look(("a",)), ("found", "drawer", 1))

    def test_whatever_was_done_and_taken_back(self):
        for number, (tree, hands, schedule) in enumerate(drawn(80, first=2600)):
            draw = random.Random(number)
            cabinet = Cabinet(tree, hands=hands)
            ways = [tuple(draw.choice("abc") for _ in range(draw.randrange(4))) for _ in range(6)]
            for hand in schedule:
                cabinet.step(hand)
                if draw.random() < 0.3:
                    cabinet.back(draw.randrange(1, len(cabinet) + 1) if draw.random() < 0.2 else 1)
                if cabinet.state_now()[4] % 2 == 0:
                    way = draw.choice(ways)
                    self.assertEqual(cabinet.look(way), modelled(tree_of(cabinet.state_now()), ("look", way))[1])


class Alike(Told):
    def test_alike(self):
        one, other = filled(), filled()
        self.assertTrue(one == other and other == one and not one != other)
        one.back(len(one))
        for way in ((), ("a",), ("b", "x"), ("a",)):
            one.look(way)
        one.run(SCHEDULE)
        self.assertTrue(one == other)
        one.back(3)
        self.assertFalse(one == other)
        self.assertTrue(one != other)
        other.back(2)
        other.back(1)
        self.assertTrue(one == other)
        self.assertTrue(Cabinet(EMPTY) == Cabinet(EMPTY, hands=()))
        self.assertTrue(one == one)

    def test_others(self):
        one = Cabinet(SMALL, hands=HANDS)
        for other in (
            Cabinet(BESIDE, hands=HANDS), Cabinet((SMALL[0], 5), hands=HANDS), Cabinet(SMALL), Cabinet(SMALL, hands=HANDS[:3]),
            Cabinet(SMALL, hands=HANDS + ((),)), Cabinet(SMALL, hands=HANDS[::-1]), filled((2,)), filled((0,)),
        ):
            self.assertFalse(one == other)
            self.assertFalse(other == one)
            self.assertTrue(one != other)
        # The same STATE behind other EVENTS.
        rested, twice = filled((2,)), filled((2, 2))
        self.assertEqual(rested.state_now(), one.state_now())
        self.assertFalse(rested == one or rested == twice)

    def test_things_that_are_none(self):
        cabinet = Cabinet(SMALL)
        for thing in NEVER + [SMALL, (), 0, "", HUGE, (SMALL, (), ()), [cabinet], (cabinet,), cabinet.log_now(), Cabinet]:
            self.assertIs(cabinet == thing, False)
            self.assertIs(thing == cabinet, False)
            self.assertIs(cabinet != thing, True)

    def test_they_know_nothing_of_one_another(self):
        one, other = Cabinet(SMALL, hands=HANDS), Cabinet(SMALL, hands=HANDS)
        one.run(SCHEDULE)
        self.is_at(other, SMALL, HANDS, ())
        self.assertEqual(other.look(("b",)), ("found", "sheet", 3))
        other.run((3, 3, 3))
        self.is_at(one, SMALL, HANDS, run(begun(SMALL, HANDS), SCHEDULE)[1])
        one.back(len(one))
        self.assertEqual(len(other), 3)

    def test_texts(self):
        cabinet = filled()
        self.assertEqual(str(cabinet), "\n".join(shown_event(event) for event in cabinet.log_now()))
        self.assertEqual(str(cabinet).split("\n")[:3], ["0 key", "1 begin 0 0", "3 begin 0 0"])
        self.assertEqual(str(Cabinet(DEEP)), "")
        self.assertIs(type(str(cabinet)), str)

    def test_nothing_handed_in_is_changed(self):
        tree, hands = copy.deepcopy((SMALL, HANDS))
        cabinet = Cabinet(tree, hands=hands)
        cabinet.until_quiet(by=(3, 2, 1, 0))
        log = cabinet.log_now()
        state = cabinet.state_now()
        kept = copy.deepcopy((log, state))
        cabinet.back(5)
        cabinet.run((1, 1, 1))
        self.assertEqual((log, state), kept)
        self.assertEqual(repr((tree, hands)), repr((SMALL, HANDS)))


if __name__ == "__main__":
    unittest.main()
