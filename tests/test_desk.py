"""[76], [77]: a desk: rows in, texts out; its diary."""

import copy
import unittest

from drawerways.cabinet import Cabinet
from drawerways.cutting import cut
from drawerways.deedtexts import shown_deed, shown_tree, shown_way
from drawerways.desk import Desk
from drawerways.errors import NoBack, NoHand, NoLine, NoStep, NoText, TextError
from drawerways.eventtexts import shown_event, shown_schedule
from drawerways.runmoments import moments_of
from drawerways.states import begun
from drawerways.trees import EMPTY

from draws import drawn
from logged import states_along
from model import modelled
from things import BESIDE, HUGE, NEVER, SMALL, deep

SMALL_ROW = "tree 4 0:a=1,b=3 1: 3"

# Rows of no form.
NO_ROWS = [
    "", " ", "  ", "\n", "x", "trees", "Tree", "tree ", "tree  ", "tree x", "tree 1", "tree 1 0", "tree 1 0: ", "tree  1 0:",
    " tree", "tree\n", "tree 01 0:", "tree 0:a=1", "tree 2 0:a=1", "tree 1000000000000 0:", "tree 4 0:a=1,b=3 1: 3 ",
    "hands", "Hand", " hand", "hand\n", "handlook /", "do", "do ", "do  ", "do x", "do -1", "do 0 ", "do 0  1", "do 0 x",
    "do 01", "do 1000000000000", "do 0 1234567890123", "do 0,1", "do -", "does 0", "rounds ", "rounds x", "rounds 0 ",
    "rounds -1", "rounds 0 01", "round", "rounds  ", "back ", "back x", "back -1", "back 01", "back 1 ", "back 1 1", "back 1.",
    "back 1000000000000", "back -", "backs", "tree tree", "cut ", "cut x", "cut -1", "cut 00", "cut 1 ", "cut 0 0",
    "cut 1000000000000", "cuts", "events ", "events 1", "quiet ", "quiet 0", "Quiet", "order ", "order 0", "moments ",
    "moments 0", "told ", "told 0", "look", "look ", "look  ", "look a b", "look A", "look a/", "look //", "look / ", "look a ",
    "look a\n", "lookup /", "list /", "make a sheet", "drop a", "run 0", "step 0", "out", "in", "diary", "-", "0", "0 rests",
    "NoLine", "ok", "|", "hand|", "tree | tree", "order\n", "told\n", "x" * 4000,
]


class Told(unittest.TestCase):
    def setUp(self):
        self.desk = Desk()
        self.many = 0

    def says(self, row, answer):
        self.assertEqual(self.desk.say(row), answer, row)
        self.assertIs(type(answer), str)
        self.kept()

    def kept(self):
        """The diary has one row more, that came in and went out."""
        self.many += 1
        due = tuple((word, n) for n in range(self.many) for word in ("in", "out"))
        self.assertEqual(self.desk.diary(), due)
        self.assertTrue(all(type(row) is tuple for row in self.desk.diary()))
        self.assertIs(type(self.desk.diary()), tuple)
        self.assertIs(self.desk.is_open(), True)

    def refused(self, row, refusal, **fields):
        with self.assertRaises(refusal) as caught:
            self.desk.say(row)
        self.assertIs(type(caught.exception), refusal)
        self.assertEqual(vars(caught.exception), fields, row)
        for field in fields:
            self.assertIs(type(getattr(caught.exception, field)), type(fields[field]))
        self.kept()

    def does(self, schedule):
        """Do STEPS; told are the EVENTS' texts."""
        return self.desk.say("do " + shown_schedule(schedule)).split(" | ")

    def again(self, *rows):
        """The desk anew, behind these rows."""
        self.desk, self.many = Desk(), len(rows)
        for row in rows:
            self.desk.say(row)


class Rows(Told):
    def test_fresh(self):
        self.assertEqual(self.desk.diary(), ())
        self.assertIs(self.desk.is_open(), True)
        for row, answer in (
            ("tree", "1 0:"), ("cut", "1 0:"), ("cut 0", "1 0:"), ("events", "0"), ("quiet", "yes"), ("order", "-"),
            ("moments", "-"), ("told", "-"), ("look /", "found drawer 0"), ("look a/b", "none 0"), ("rounds", "0"),
        ):
            self.says(row, answer)
        self.refused("back", NoBack, times=1)
        self.refused("do 0", NoHand, hand=0)

    def test_tree(self):
        self.says(SMALL_ROW, "ok")
        self.says("tree", "4 0:a=1,b=3 1: 3")
        self.says("hand look /", "0")
        self.says("do 0", "0 begin 0 0")
        # A new cabinet, without HANDS and EVENTS.
        self.says("tree 60 0:", "ok")
        self.says("tree", "60 0:")
        self.says("events", "0")
        self.refused("do 0", NoHand, hand=0)
        self.says("hand", "0")
        self.says("tree " + shown_tree(BESIDE), "ok")
        self.says("tree", shown_tree(BESIDE))

    def test_hand(self):
        self.says(SMALL_ROW, "ok")
        self.says("hand", "0")
        self.says("hand look a", "1")
        self.says("hand make a/b sheet | drop b | move a c", "2")
        self.says("hand list /", "3")
        self.says("do 0 1 2 3", "0 rests | 1 begin 0 0 | 2 begin 0 0 | 3 begin 0 0")

    def test_hand_refused(self):
        for row, line, word in (
            ("hand ", 0, 0), ("hand x", 0, 0), ("hand  look a", 0, 0), ("hand look", 0, 1), ("hand look a ", 0, 2),
            ("hand look a |", 0, 2), ("hand look a | ", 1, 0), ("hand | look a", 0, 0), ("hand look a|drop b", 0, 1),
            ("hand look a | drop", 1, 1), ("hand look a | drop b | make a", 2, 2), ("hand look a | x | y", 1, 0),
            ("hand look a |  | drop b", 1, 0), ("hand look a  | drop b", 0, 2), ("hand look a | drop /", 1, 1),
            ("hand move a b c", 0, 3), ("hand look a\n", 0, 1),
        ):
            self.refused(row, NoText, line=line, word=word)
        self.says("hand look a", "0")
        self.assertTrue(issubclass(NoText, TextError))

    def test_hand_late(self):
        self.says("hand look /", "0")
        self.says("do 0", "0 begin 0 0")
        self.refused("hand", NoStep, word="late")
        self.refused("hand look /", NoStep, word="late")
        # The DEEDS are read ahead of that.
        self.refused("hand look", NoText, line=0, word=1)
        self.refused("hand ", NoText, line=0, word=0)
        self.says("back", "1")
        self.says("hand drop a", "1")
        self.says("rounds", "3")
        self.refused("hand", NoStep, word="late")

    def test_do(self):
        self.says(SMALL_ROW, "ok")
        self.says("hand look b | list /", "0")
        self.says("hand move b a/c", "1")
        self.says("do 0", "0 begin 0 0")
        self.says("do 0 0 1 1 0", "0 walk 0 3 | 0 told 0 (found,sheet,3) | 1 key | 1 begin 0 0 | 0 begin 1 0")
        self.says("do 0 0", "0 locks 0 | 0 told 1 (names,(a,b))")
        self.says("do 1 1 1 1 1 0", (
            "1 walk 0 1 | 1 locks 0 | 1 locks 1 | 1 finds 3 - | 1 journal (move,0,b,1,c,3,-) | 0 rests"))
        self.says("events", "14")

    def test_do_refused_among_others(self):
        self.says("hand look a", "0")
        self.refused("do 0 0 1 0", NoHand, hand=1)
        self.says("events", "2")
        self.says("tree", "1 0:")
        self.refused("do 7", NoHand, hand=7)
        self.says("events", "2")
        self.says("do 0", "0 told 0 (none,0)")
        self.refused("do 0 0 999999999999", NoHand, hand=999999999999)
        self.says("events", "5")
        # A row that can't be read does nothing at all.
        self.refused("do 0 x", NoLine, line="do 0 x")
        self.says("events", "5")

    def test_rounds(self):
        rows = (SMALL_ROW, "hand look a/x", "hand drop b")
        self.again(*rows)
        self.says("rounds", "4")
        self.says("rounds", "0")
        self.says("rounds 1 0", "0")
        self.says("events", "8")
        self.again(*rows)
        self.says("rounds 1 0", "4")
        self.says("order", "1.0 0.0")
        for row in ("rounds 0", "rounds 1", "rounds 0 0", "rounds 0 1 2", "rounds 2 1", "rounds 0 1 1", "rounds 7 0"):
            self.refused(row, NoStep, word="hands")
        self.again(*rows)
        self.refused("rounds 0 1 0", NoStep, word="hands")
        self.says("events", "0")
        self.says("rounds 0 1", "4")
        self.again("hand", "hand")
        self.says("rounds", "0")
        self.says("rounds 1 0", "0")
        self.again()
        self.refused("rounds 0", NoStep, word="hands")

    def test_back(self):
        self.again(SMALL_ROW, "hand look a/x", "hand drop b", "rounds")
        self.says("back", "1")
        self.says("back 1", "1")
        self.says("back 4", "4")
        self.says("events", "2")
        self.says("tree", "4 0:a=1,b=3 1: 3")
        self.refused("back 3", NoBack, times=3)
        self.refused("back 0", NoBack, times=0)
        self.says("back 2", "2")
        self.refused("back", NoBack, times=1)
        self.refused("back 1", NoBack, times=1)
        self.says("events", "0")

    def test_no_form(self):
        for rows in ((), (SMALL_ROW, "hand move b a/c", "do 0 0 0")):
            self.again(*rows)
            events = self.desk.say("events")
            self.many += 1
            for row in NO_ROWS:
                self.refused(row, NoLine, line=row)
            self.says("events", events)

    def test_rows_that_are_no_texts(self):
        for thing in NEVER + [0, 1, HUGE, (), ("tree",), ["tree"], deep(40, "tree"), deep(40, "tree", list)]:
            if type(thing) is not str:
                kept = copy.deepcopy(thing)
                self.refused(thing, NoLine, line=thing)
                self.assertEqual(thing, kept)

    def test_the_very_row(self):
        row = "x" * 40
        with self.assertRaises(NoLine) as caught:
            self.desk.say(row)
        self.assertIs(caught.exception.line, row)
        row = "back " + "7" * 20
        with self.assertRaises(NoLine) as caught:
            self.desk.say(row=row)
        self.assertIs(caught.exception.line, row)


class Looks(Told):
    def test_in_the_midst_of_a_move(self):
        self.again(SMALL_ROW, "hand move b a/c", "do 0 0 0 0 0 0 0")
        self.says("tree", "4 0:a=1,b=3 1: 3")
        self.says("cut", "4 0:a=1 1:c=3 3")
        for _ in range(3):
            self.desk.say("do 0")
            self.many += 1
            self.refused("tree", NoStep, word="turn")
            self.refused("look a", NoStep, word="turn")
            self.refused("look x/y", NoStep, word="turn")
            self.refused("look A", NoLine, line="look A")
            self.says("cut", "4 0:a=1 1:c=3 3")
            self.says("quiet", "no")
            self.says("order", "-")
        self.says("cut 6", "4 0:a=1,b=3 1: 3")
        self.says("cut 7", "4 0:a=1 1:c=3 3")
        self.says("cut 0", "4 0:a=1,b=3 1: 3")
        self.says("cut 10", "4 0:a=1 1:c=3 3")
        self.refused("cut 11", NoStep, word="number")
        self.refused("cut 999999999999", NoStep, word="number")
        self.says("do 0", "0 told 0 (moved,3)")
        self.says("tree", "4 0:a=1 1:c=3 3")
        self.says("look a/c", "found sheet 3")
        self.says("quiet", "yes")
        self.says("moments", "0.0:10.1")

    def test_look(self):
        self.again("tree " + shown_tree(BESIDE))
        for row, answer in (
            ("look /", "found drawer 0"), ("look a", "found drawer 7"), ("look b/a", "found sheet 3"), ("look a/x/y", "none 1"),
            ("look b/a/x/y", "sheet 2"), ("look x", "none 0"), ("look a", "found drawer 7"),
        ):
            self.says(row, answer)

    def test_order_moments_told(self):
        self.again(SMALL_ROW, "hand look a/x", "hand drop a", "hand", "hand make a sheet | list b/x")
        self.says("do 0 0 1 1 1 1 1", (
            "0 begin 0 0 | 0 walk 0 1 | 1 begin 0 0 | 1 locks 0 | 1 finds 1 - | 1 locks 1 | 1 told 0 (dropped,1)"))
        self.says("order", "1.0")
        self.says("moments", "1.0:6.1")
        self.says("told", "1.0=dropped")
        self.says("do 0 0", "0 walk 1 - | 0 told 0 (none,1)")
        self.says("order", "0.0 1.0")
        self.says("moments", "0.0:6.0 1.0:6.1")
        self.says("told", "0.0=none 1.0=dropped")
        self.says("rounds", "6")
        self.says("order", "0.0 1.0 3.0 3.1")
        self.says("told", "0.0=none 1.0=dropped 3.0=made 3.1=sheet")
        self.says("moments", "0.0:6.0 1.0:6.1 3.0:20.1 3.1:28.1")
        self.says("back 30", "30")
        self.says("told", "-")

    def test_as_the_parts_tell(self):
        for tree, hands, schedule in drawn(60, first=8080):
            self.again("tree " + shown_tree(tree))
            for number, deeds in enumerate(hands):
                row = "hand " + " | ".join(shown_deed(deed) for deed in deeds) if deeds else "hand"
                self.says(row, str(number))
            cabinet = Cabinet(tree, hands=hands)
            for place in range(0, len(schedule), 7):
                events = cabinet.run(schedule[place:place + 7])
                self.says("do " + shown_schedule(schedule[place:place + 7]), " | ".join(map(shown_event, events)))
                self.looks(tree, hands, cabinet)
            self.says("rounds " + shown_schedule(tuple(reversed(range(len(hands))))), str(
                cabinet.until_quiet(by=tuple(reversed(range(len(hands)))))))
            self.looks(tree, hands, cabinet)

    def looks(self, tree, hands, cabinet):
        log = cabinet.log_now()
        state = states_along(tree, hands, log)[-1]
        found = moments_of(tree, hands, log)
        told = {(event[0], event[2]): event[3][0] for event in log if event[1] == "told"}
        self.says("events", str(len(log)))
        self.says("quiet", "yes" if all(row[1] == "through" for row in state[5]) else "no")
        self.says("cut", shown_tree(cut(state)))
        self.says(f"cut {len(log) // 2}", shown_tree(cabinet.cut_at(len(log) // 2)))
        self.says("order", " ".join(f"{task[0]}.{task[1]}" for task, _, _ in found) or "-")
        self.says("moments", " ".join(f"{task[0]}.{task[1]}:{n}.{side}" for task, n, side in found) or "-")
        self.says("told", " ".join(f"{task[0]}.{task[1]}={told[task]}" for task, _, _ in found) or "-")
        for way in ((), ("a",), ("a", "b"), ("c", "d", "a")):
            if state[4] % 2:
                self.refused("look " + shown_way(way), NoStep, word="turn")
                self.refused("tree", NoStep, word="turn")
            else:
                told_there = modelled(state[1][:2], ("look", way))[1]
                self.says("look " + shown_way(way), " ".join(map(str, told_there)))
                self.says("tree", shown_tree(state[1][:2]))


class Diary(Told):
    def test_rows_by_turns(self):
        for n, row in enumerate(["events", "x", "", "do 0", "hand", "hand x", "back", "tree 1", SMALL_ROW, "tree"]):
            try:
                self.desk.say(row)
            except (NoLine, NoText, NoStep, NoBack, NoHand):
                pass
            self.kept()
            self.assertEqual(self.desk.diary()[-2:], (("in", n), ("out", n)))

    def test_it_is_the_askers_own(self):
        self.desk.say("events")
        first = self.desk.diary()
        self.desk.say("events")
        self.assertEqual(first, (("in", 0), ("out", 0)))
        self.assertEqual([type(n) for _, n in self.desk.diary()], [int] * 4)

    def test_between_in_and_out(self):
        # What a desk is asked while it answers: not open, the row in, not out.
        desk, seen = self.desk, []

        class Curious(str):
            def partition(self, sign):
                seen.append((desk.is_open(), desk.diary()))
                return str.partition(self, sign)

        for n in range(2):
            desk.say("events")
            desk.say(Curious("events"))
        with self.assertRaises(NoLine):
            desk.say(Curious("no such row"))
        self.assertEqual([is_open for is_open, _ in seen], [False] * 3)
        self.assertEqual([diary[-1] for _, diary in seen], [("in", 1), ("in", 3), ("in", 4)])
        self.assertEqual(desk.diary()[-1], ("out", 4))
        self.assertIs(desk.is_open(), True)

    def test_desks_know_nothing_of_one_another(self):
        other = Desk()
        self.desk.say(SMALL_ROW)
        self.desk.say("hand look a")
        self.assertEqual(other.say("tree"), shown_tree(EMPTY))
        self.assertEqual(other.diary(), (("in", 0), ("out", 0)))
        self.assertEqual(self.desk.say("do 0"), "0 begin 0 0")
        self.assertEqual(begun(SMALL, ())[1][:2], SMALL)


if __name__ == "__main__":
    unittest.main()
