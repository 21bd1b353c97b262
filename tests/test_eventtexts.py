"""[74]: EVENTS, LOGS, SCHEDULES written."""

import copy
import unittest

from drawerways.eventtexts import shown_event, shown_log, shown_schedule

from events import BEYOND, EVENTS
from things import HUGE


class Shown(unittest.TestCase):
    def test_events(self):
        self.assertEqual(shown_event((0, "told", 1, ("found", "sheet", 12))), "0 told 1 (found,sheet,12)")
        self.assertEqual(shown_event((1, "walk", 0, None)), "1 walk 0 -")
        for text, event in EVENTS.items():
            self.assertEqual(shown_event(event), text)
            self.assertIs(type(shown_event(event)), str)

    def test_large_numbers(self):
        self.assertEqual(shown_event(BEYOND[0]), f"{HUGE} rests")
        self.assertEqual(shown_event(BEYOND[2]), f"0 told {HUGE} (none,{HUGE},1)")

    def test_logs(self):
        self.assertEqual(shown_log(()), "")
        self.assertEqual(shown_log(((0, "rests"),)), "0 rests")
        self.assertEqual(shown_log(((0, "key"), (0, "begin", 0, 2), (1, "walk", 0, None))), "0 key\n0 begin 0 2\n1 walk 0 -")
        self.assertEqual(shown_log(tuple(EVENTS.values())), "\n".join(EVENTS))

    def test_schedules(self):
        self.assertEqual(shown_schedule(()), "")
        self.assertEqual(shown_schedule((3,)), "3")
        self.assertEqual(shown_schedule((0, 1, 0, 12)), "0 1 0 12")
        self.assertEqual(shown_schedule((0, -1, HUGE)), f"0 -1 {HUGE}")

    def test_by_name_and_nothing_is_changed(self):
        log = tuple(EVENTS.values())
        kept = copy.deepcopy(log)
        self.assertEqual(shown_event(event=(2, "key")), "2 key")
        self.assertEqual(shown_log(log=log), shown_log(log))
        self.assertEqual(shown_schedule(schedule=(1, 2)), "1 2")
        self.assertEqual(repr(log), repr(kept))


if __name__ == "__main__":
    unittest.main()
