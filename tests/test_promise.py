"""[7], [78]: (M1) to (M6) of drawn TREES, HANDS and SCHEDULES, by the whole program; what is told, handed in again."""

import random
import unittest

from drawerways.barchecker import lets_bar
from drawerways.cabinet import Cabinet
from drawerways.deedreader import read_tree
from drawerways.deedtexts import shown_tree
from drawerways.errors import NoPaper
from drawerways.eventkinds import is_event
from drawerways.eventreader import read_log
from drawerways.exchanges import lets_exchanges
from drawerways.momentchecker import lets_moments
from drawerways.orders import MOST, serial_paper
from drawerways.runmoments import end_of, moments_of, run_order
from drawerways.runs import rounds, run
from drawerways.serialchecker import lets_serial
from drawerways.spans import is_spans, moments_by
from drawerways.spansof import results_of, spans_of
from drawerways.states import begun, is_quiet, tree_of
from drawerways.steps import step
from drawerways.tasks import in_order, trees_along
from drawerways.trees import is_tree
from drawerways.waitchecker import lets_ranks
from drawerways.waits import is_waits, ring_or_ranks, waiting_pairs

from draws import drawn
from model import modelled
from things import HUGE

# In WAITS the drawers are LOCKS, behind the KEY and the TURN.
KEY, TURN, FIRST = 0, 1, 2


def filled(tree, hands, schedule):
    """A cabinet behind a SCHEDULE that is done over and over until all is QUIET."""
    cabinet = Cabinet(tree, hands=hands)
    cabinet.run(schedule)
    while not is_quiet(cabinet.state_now()):
        cabinet.run(schedule + tuple(range(len(hands))), most=HUGE)
    return cabinet


def waits_of(state):
    """WAITS: which LOCKS each hand holds, and which it wants."""
    hands, _, locks, key, turn, _ = state
    rows = []
    for hand in range(len(hands)):
        holds = [FIRST + node for node, holder in locks if holder == hand]
        if key == hand:
            holds += [KEY] + [TURN] * (turn % 2)
        _, event = step(state, hand)
        wants = None
        if event[1] == "waits":
            wants = {"key": KEY, "turn": TURN}.get(event[2], event[2] if type(event[2]) is str else FIRST + event[2])
        rows.append((hand, tuple(sorted(holds)), wants))
    return tuple(rows)


class Promise(unittest.TestCase):
    def test_m1_as_one_at_a_time(self):
        sought = 0
        for tree, hands, schedule in drawn(250, first=10_000):
            cabinet = filled(tree, hands, schedule)
            log = cabinet.log_now()
            for part in (log, log[:len(log) // 2]):
                spans, results = spans_of(tree, hands, part), results_of(tree, hands, part)
                order, end = run_order(tree, hands, part), end_of(tree, hands, part)
                self.assertTrue(is_spans(hands, spans))
                self.assertIs(lets_serial(tree, hands, spans, results, end, order), True)
                self.assertEqual(lets_moments(tree, hands, part, moments_of(tree, hands, part)), len(spans))
                if 0 < len(spans) <= MOST:
                    sought += 1
                    self.assertIs(lets_serial(tree, hands, spans, results, end, serial_paper(
                        tree, hands, spans, results, end)), True)
                    with self.assertRaises(NoPaper):
                        lets_bar(tree, hands, spans, results, end, ("by", ()))
            self.assertEqual(end_of(tree, hands, log), tree_of(cabinet.state_now()))
            self.assertEqual(len(spans_of(tree, hands, log)), sum(len(deeds) for deeds in hands))
        self.assertGreater(sought, 100)

    def test_m2_a_tree_at_each_step_at_which_nothing_is_moved(self):
        odd = 0
        for tree, hands, schedule in drawn(200, first=20_000):
            cabinet = filled(tree, hands, schedule)
            for k in range(len(cabinet) + 1):
                state = cabinet.then(k)
                if state[4] % 2:
                    odd += 1
                else:
                    self.assertIs(is_tree(tree_of(state)), True)
        self.assertGreater(odd, 100)

    def test_m3_hands_never_wait_in_a_ring(self):
        several = 0
        for tree, hands, schedule in drawn(150, first=30_000):
            state = begun(tree, hands)
            for hand in schedule:
                rows = waits_of(state)
                self.assertTrue(is_waits(rows))
                word, ranks = ring_or_ranks(rows)
                self.assertEqual(word, "ranks")
                several += lets_ranks(rows, ranks) > 1 or len(waiting_pairs(rows)) > 1
                state, _ = step(state, hand)
        self.assertGreater(several, 50)

    def test_m4_all_come_through(self):
        for number, (tree, hands, schedule) in enumerate(drawn(200, first=40_000)):
            draw = random.Random(number)
            deeds = [deed for own in hands for deed in own]
            names = max([len(part) for deed in deeds for part in deed[1:] if type(part) is tuple], default=0)
            enough = rounds(deeds=len(deeds), hands=len(hands), names=names)
            cabinet = Cabinet(tree, hands=hands)
            order = list(range(len(hands)))
            for many in range(enough):
                draw.shuffle(order)
                cabinet.run(tuple(order))
            self.assertTrue(is_quiet(cabinet.state_now()))
            cabinet.back(len(cabinet))
            cabinet.run(schedule)
            self.assertLessEqual(cabinet.until_quiet(by=tuple(order)), enough)

    def test_m4_what_is_begun_again_has_its_cause(self):
        again = 0
        for tree, hands, schedule in drawn(250, first=50_000):
            log = filled(tree, hands, schedule).log_now()
            begins, used = {}, set()
            for n, event in enumerate(log):
                if event[1] == "begin":
                    begins[event[0]] = n
                if event[1] != "again":
                    continue
                again += 1
                causes = [
                    m for m in range(begins[event[0]], n)
                    if log[m][0] != event[0] and (log[m][1] == "odd" or (log[m][1] == "told" and log[m][3][0] == "dropped"))
                ]
                # By one such DEED each hand goes AGAIN once at most.
                self.assertTrue(causes)
                self.assertFalse(used & {(event[0], m) for m in causes})
                used |= {(event[0], m) for m in causes}
        self.assertGreater(again, 10)

    def test_m5_a_look_takes_no_lock_and_turns_nothing(self):
        looks = 0
        for tree, hands, schedule in drawn(200, first=60_000):
            cabinet = filled(tree, hands, schedule)
            log = cabinet.log_now()
            for n, event in enumerate(log):
                ahead, behind = cabinet.then(n), cabinet.then(n + 1)
                k = ahead[5][event[0]][0]
                if k < len(hands[event[0]]) and hands[event[0]][k][0] == "look":
                    self.assertEqual(ahead[:5], behind[:5])
            for (hand, k), begin, end in spans_of(tree, hands, log):
                if hands[hand][k][0] == "look":
                    looks += 1
                    there = [cabinet.then(n) for n in range(begin, end + 2)]
                    told = [modelled(state[1][:2], hands[hand][k])[1] for state in there if state[4] % 2 == 0]
                    self.assertIn(log[end][3], told)
        self.assertGreater(looks, 50)

    def test_m6_cut_off_at_any_step(self):
        stood = 0
        for tree, hands, schedule in drawn(200, first=70_000):
            cabinet = filled(tree, hands, schedule)
            log = cabinet.log_now()
            for k in range(len(log) + 1):
                state = cabinet.then(k)
                due = end_of(tree, hands, log[:k])
                if state[1][2] is not None:
                    stood += 1
                    at = state[3], state[5][state[3]][0]
                    due, _ = modelled(due, hands[at[0]][at[1]])
                self.assertEqual(cabinet.cut_at(k), due)
                self.assertIs(is_tree(cabinet.cut_at(k)), True)
        self.assertGreater(stood, 100)


class HandedInAgain(unittest.TestCase):
    def test_logs_as_read(self):
        for tree, hands, schedule in drawn(60, first=80_000):
            cabinet = filled(tree, hands, schedule)
            log = read_log(str(cabinet))
            self.assertEqual(log, cabinet.log_now())
            self.assertTrue(all(is_event(event) for event in log))
            self.assertEqual(end_of(tree, hands, log), tree_of(cabinet.state_now()))
            self.assertEqual(lets_moments(tree, hands, log, moments_of(tree, hands, log)), sum(map(len, hands)))

    def test_trees_of_cuts(self):
        for tree, hands, schedule in drawn(40, first=81_000):
            cabinet = filled(tree, hands, schedule)
            for k in range(0, len(cabinet), 9):
                left = cabinet.cut_at(k)
                self.assertEqual(read_tree(shown_tree(left)), left)
                more = Cabinet(left, hands=hands)
                more.until_quiet()
                self.assertTrue(is_tree(tree_of(more.state_now())))

    def test_the_order_wherever_a_line_is(self):
        for tree, hands, schedule in drawn(60, first=82_000):
            log = filled(tree, hands, schedule).log_now()
            spans, order = spans_of(tree, hands, log), run_order(tree, hands, log)
            self.assertEqual(in_order(tree, hands, order), (results_of(tree, hands, log), end_of(tree, hands, log)))
            self.assertEqual(trees_along(tree, hands, order)[-1], end_of(tree, hands, log))
            self.assertEqual(tuple(task for task, _ in moments_by(spans, order)), order)
            self.assertEqual(lets_exchanges(tree, hands, order, ()), order)

    def test_states_of_one_run_in_another(self):
        for tree, hands, schedule in drawn(40, first=83_000):
            cabinet = Cabinet(tree, hands=hands)
            cabinet.run(schedule)
            state, log = run(cabinet.then(len(cabinet) // 2), schedule)
            self.assertEqual(end_of(tree, hands, cabinet.log_now()[:len(cabinet) // 2] + log), end_of(
                tree, hands, filled_by(tree, hands, cabinet, log).log_now()))
            self.assertEqual(state, filled_by(tree, hands, cabinet, log).state_now())


def filled_by(tree, hands, cabinet, log):
    """A cabinet with the first half of the EVENTS of one, and then those of a LOG."""
    other = Cabinet(tree, hands=hands)
    for event in cabinet.log_now()[:len(cabinet) // 2] + log:
        other.step(event[0])
    return other


if __name__ == "__main__":
    unittest.main()
