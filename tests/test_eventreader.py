"""[75]: EVENTS, LOGS, SCHEDULES read."""

import unittest

from drawerways.errors import NoText, TextError
from drawerways.eventkinds import is_event
from drawerways.eventreader import read_event, read_log, read_schedule
from drawerways.eventtexts import shown_event, shown_log, shown_schedule
from drawerways.runs import until_quiet
from drawerways.states import begun

from draws import drawn
from events import BEYOND, EVENTS, read
from things import HUGE, just_tuples

# text: the number of the first word that can't stand, or how many there are where some lack.
NO_EVENTS = {
    "": 0, " ": 0, "  ": 0, "-": 0, "rests": 0, "rests 0": 0, "-1 rests": 0, "01 rests": 0, "00 rests": 0, "+1 rests": 0,
    " 0 rests": 0, "1000000000000 rests": 0, "0\n rests": 0, "a rests": 0, "(0) rests": 0, "0. rests": 0, "0,rests": 0,
    "0": 1, "0 ": 1, "0 -": 1, "0 1": 1, "0 rest": 1, "0 Rests": 1, "0 look": 1, "0 (rests)": 1, "0  rests": 1,
    "0 rests\n": 1, "0 \nrests": 1, "0 found": 1, "0 waitskey": 1, "0 ()": 1,
    "0 rests ": 2, "0 rests 0": 2, "0 rests -": 2, "0 key 0": 2, "0 key  ": 2, "0 waits": 2, "0 told": 2, "0 locks": 2,
    "0 journal": 2, "0 odd": 2, "0 empty": 2, "0 out": 2, "0 again": 2, "0 begin": 2, "0 walk": 2, "0 finds": 2, "0 in": 2,
    "0 waits -": 2, "0 waits dead 1": 2, "0 waits  1": 2, "0 waits -1 1": 2, "0 waits 01 1": 2, "0 waits key1": 2,
    "0 waits (key) 1": 2, "0 again turn 0": 2, "0 again -1 turn": 2, "0 again - turn": 2, "0 begin - 0": 2, "0 walk - -": 2,
    "0 walk  -": 2, "0 locks -": 2, "0 locks a": 2, "0 locks 1234567890123": 2, "0 finds - 1": 2, "0 empty -": 2,
    "0 odd -1": 2, "0 odd 1.": 2, "0 out b 0": 2, "0 in - a": 2, "0 told (full)": 2, "0 told - (full)": 2,
    "0 journal -": 2, "0 journal ()": 2, "0 journal move,0,b,1,c,3,-": 2, "0 journal (move,0,b,1,c,3)": 2,
    "0 journal (move,0,b,1,c,3,-,-)": 2, "0 journal (link,0,b,1,c,3,-)": 2, "0 journal (move,-,b,1,c,3,-)": 2,
    "0 journal (move,0,B,1,c,3,-)": 2, "0 journal (move,0,b,1,c,-,-)": 2, "0 journal (move,0,b,1,c,3,-1)": 2,
    "0 journal (move,00,b,1,c,3,-)": 2, "0 journal (move,0,b,1,c,3,": 2, "0 journal ((move),0,b,1,c,3,-)": 2,
    "0 journal (move,0,b,1,c,3,)": 2, "0 journal (move,0,b,1,c,3, -)": 2, "0 journal (full)": 2,
    "0 journal (move,0,b,1,c,1234567890123,-)": 2,
    "0 waits key": 3, "0 waits key ": 3, "0 waits key -": 3, "0 waits key a": 3, "0 waits 1": 3, "0 again 0": 3,
    "0 again 0 key": 3, "0 again 0 -": 3, "0 again 0 0": 3, "0 again 0 (turn)": 3, "0 begin 0": 3, "0 begin 0 -": 3,
    "0 begin 0 -1": 3, "0 walk 0": 3, "0 walk 0 a": 3, "0 walk 0 --": 3, "0 walk 0 01": 3, "0 walk 0 ": 3, "0 locks 1 ": 3,
    "0 locks 1 2": 3, "0 finds 1": 3, "0 finds 1 a": 3, "0 empty 1 -": 3, "0 odd 1 1": 3, "0 out 0": 3, "0 out 0 1": 3,
    "0 out 0 -": 3, "0 out 0 B": 3, "0 out 0 abcdefghi": 3, "0 in 1 a/b": 3, "0 in 1 ": 3, "0 told 0": 3, "0 told 0 full": 3,
    "0 told 0 ()": 3, "0 told 0 -": 3, "0 told 0 (": 3, "0 told 0 )": 3, "0 told 0 (full": 3, "0 told 0 full)": 3, "0 told 0 xfull)": 3,
    "0 told 0 [full)": 3, "0 told 0 (full]": 3, "0 journal xmove,0,b,1,c,3,-)": 2,
    "0 told 0 ((full))": 3, "0 told 0 (full,)": 3, "0 told 0 (,full)": 3, "0 told 0 (full)(full)": 3, "0 told 0 (none)": 3,
    "0 told 0 (none,)": 3, "0 told 0 (none,-)": 3, "0 told 0 (none,-1)": 3, "0 told 0 (none,01)": 3, "0 told 0 (none,1,2)": 3,
    "0 told 0 (none,1,-)": 3, "0 told 0 (none,(1))": 3, "0 told 0 (none,1": 3, "0 told 0 (none,1234567890123)": 3,
    "0 told 0 (found,sheet)": 3, "0 told 0 (found,sheets,1)": 3, "0 told 0 (found,1,sheet)": 3, "0 told 0 (names)": 3,
    "0 told 0 (names,)": 3, "0 told 0 (names,a)": 3, "0 told 0 (names,a,b)": 3, "0 told 0 (names,(a,b)": 3,
    "0 told 0 (names,((a)))": 3, "0 told 0 (names,(,))": 3, "0 told 0 (names,(a,))": 3, "0 told 0 (names,(b,a))": 3,
    "0 told 0 (names,(a,a))": 3, "0 told 0 (names,(A))": 3, "0 told 0 (names,(1))": 3, "0 told 0 (names,(-))": 3,
    "0 told 0 (names,(a)": 3, "0 told 0 (names,(a),(b))": 3, "0 told 0 (names,(a),b)": 3, "0 told 0 (names,())x": 3,
    "0 told 0 (names(a))": 3, "0 told 0 (name,(a))": 3, "0 told 0 (names,(())": 3, "0 told 0 (names,(a b))": 3,
    "0 told 0 (swapped,1,-)": 3, "0 told 0 (made,4)\n": 3, "0 told 0 (moved,4;)": 3, "0 told 0 " + "(" * 3000: 3,
    "0 told 0 " + "(" * 1500 + ")" * 1500: 3, "0 told 0 (names," + "(" * 1000 + ")" * 1000 + ")": 3,
    "0 journal (move,0,b,1,c,3,-) ": 3, "0 journal (move,0,b,1,c,3,-) 0": 3,
    "0 waits key 1 ": 4, "0 waits key 1 1": 4, "0 again 0 turn -": 4, "0 begin 0 0 0": 4, "0 walk 0 1 ": 4, "0 walk 0 -  ": 4,
    "0 told 0 (full) ": 4, "0 told 0 (full) (full)": 4, "0 finds 1 - -": 4, "0 out 0 b b": 4, "0 in 0 b ": 4,
}

# text: (line, word); right rows between.
NO_LOGS = {
    "\n": (0, 0), " ": (0, 0), "0": (0, 1), "0 rests\n": (1, 0), "\n0 rests": (0, 0), "0 rests\n\n0 rests": (1, 0),
    "0 rests\n0 rests\n": (2, 0), "0 rests\n0 rest": (1, 1), "0 rests \n0 rest": (0, 2), "0 rests\n 0 rests": (1, 0),
    "0 rests\n0 walk 0\n0": (1, 3), "0 key\n0 begin 0 0\n0 walk 0 -\n0 told 0 (none,0": (3, 3), "0 rests 0 rests": (0, 2),
    "0 rests\n\n": (1, 0), "0 told 0 (names,(a))\n0 told 0 (names,(b,a))": (1, 3),
}

NO_SCHEDULES = {
    " ": 0, "  ": 0, "-": 0, "-1": 0, "01": 0, "00": 0, "a": 0, "(1)": 0, "1,2": 0, "1\n2": 0, "\n": 0, "+1": 0, " 1": 0,
    "1000000000000": 0, "0-": 0, "1 ": 1, "1  2": 1, "0 -1": 1, "0 01": 1, "0 a 1": 1, "0 1 ": 2, "0 1 2\n": 2,
    "0 1 1234567890123 -1": 2, "0 0 0 0 0 -0": 5,
}


class Reader(unittest.TestCase):
    def refused(self, call, text, line, word):
        with self.assertRaises(NoText) as caught:
            call(text)
        self.assertIs(type(caught.exception), NoText)
        self.assertIsInstance(caught.exception, TextError)
        self.assertEqual((caught.exception.line, caught.exception.word), (line, word), text)
        self.assertIs(type(caught.exception.word), int)

    def told(self, found, thing):
        self.assertEqual(found, thing)
        self.assertTrue(just_tuples(found))

    def test_events(self):
        for text, event in EVENTS.items():
            self.told(read_event(text), event)
            self.told(read_event(text, line=7), event)
            self.told(read_event(line=HUGE, text=text), event)

    def test_no_events(self):
        for text, word in NO_EVENTS.items():
            self.refused(read_event, text, 0, word)
            for line in (0, 1, 12, HUGE):
                self.refused(lambda given: read_event(given, line=line), text, line, word)

    def test_the_line_is_the_very_thing(self):
        with self.assertRaises(NoText) as caught:
            read_event("", line=HUGE)
        self.assertIs(caught.exception.line, HUGE)
        with self.assertRaises(TypeError):
            read_event("0 rests", 0)

    def test_logs(self):
        self.told(read_log(""), ())
        self.told(read_log("0 rests"), ((0, "rests"),))
        self.told(read_log("0 key\n0 begin 0 2\n1 walk 0 -"), ((0, "key"), (0, "begin", 0, 2), (1, "walk", 0, None)))
        self.told(read_log(text="\n".join(EVENTS)), tuple(EVENTS.values()))

    def test_no_logs(self):
        for text, (line, word) in NO_LOGS.items():
            self.refused(read_log, text, line, word)
        rows = list(EVENTS)
        for place in range(len(rows)):
            self.refused(read_log, "\n".join(rows[:place] + [""] + rows[place:]), place, 0)
            self.refused(read_log, "\n".join(rows[:place] + ["0 rests x", ""] + rows[place:]), place, 2)
        self.refused(read_log, "\n".join(rows) + "\n", len(rows), 0)

    def test_schedules(self):
        for text, schedule in {
            "": (), "0": (0,), "3 1 0": (3, 1, 0), "999999999999": (999999999999,), "0 0 0 10": (0, 0, 0, 10),
        }.items():
            self.told(read_schedule(text), schedule)
        self.told(read_schedule(text="1 2"), (1, 2))

    def test_no_schedules(self):
        for text, word in NO_SCHEDULES.items():
            self.refused(read_schedule, text, 0, word)

    def test_each_sign_ahead_behind_or_between(self):
        right = 0
        for text in EVENTS:
            for sign in "\n !+-.,()01aAz/:=|":
                for at in range(len(text) + 1):
                    newer = text[:at] + sign + text[at:]
                    due = read(newer)
                    if type(due) is int:
                        self.refused(read_event, newer, 0, due)
                    else:
                        right += 1
                        self.told(read_event(newer), due)
                        self.assertEqual(shown_event(due), newer)
        self.assertGreater(right, 200)

    def test_each_word_and_each_sign_left_out(self):
        for text in EVENTS:
            words = text.split(" ")
            for at in range(len(words)):
                for newer in (words[:at] + words[at + 1:], words[:at] + [""] + words[at:], words[:at] + words[at:at + 1] * 2):
                    self.as_due(" ".join(newer))
            for at in range(len(text)):
                self.as_due(text[:at] + text[at + 1:])

    def as_due(self, text):
        due = read(text)
        if type(due) is int:
            self.refused(read_event, text, 0, due)
        else:
            self.told(read_event(text), due)

    def test_written_is_read_as_the_same(self):
        for event in EVENTS.values():
            self.assertEqual(read_event(shown_event(event)), event)
        for tree, hands, schedule in drawn(60, first=333):
            _, log, _ = until_quiet(begun(tree, hands))
            self.assertEqual(read_log(shown_log(log)), log)
            self.assertEqual(read_schedule(shown_schedule(schedule)), schedule)
        for schedule in ((), (0,), (5, 0, 10 ** 12 - 1)):
            self.assertEqual(read_schedule(shown_schedule(schedule)), schedule)

    def test_read_is_written_as_the_same(self):
        for text in EVENTS:
            self.assertEqual(shown_event(read_event(text)), text)
            self.assertIs(is_event(read_event(text)), True)
        for text in ("", "\n".join(EVENTS)):
            self.assertEqual(shown_log(read_log(text)), text)
        for text in ("", "0", "7 7 12"):
            self.assertEqual(shown_schedule(read_schedule(text)), text)

    def test_numbers_beyond_twelve_figures_are_written_but_not_read(self):
        for event, word in zip(BEYOND, (0, 2, 2, 2, 2, 3)):
            self.refused(read_event, shown_event(event), 0, word)
        self.refused(read_schedule, shown_schedule((1, 10 ** 12)), 0, 1)
        self.refused(read_schedule, shown_schedule((1, -1)), 0, 1)


if __name__ == "__main__":
    unittest.main()
