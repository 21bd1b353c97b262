"""[10] (and [2], [3]): NUMBERS, NAMES, WAYS, told of any thing."""

import copy
import unittest

from drawerways.kinds import is_name, is_number, is_way

from things import HUGE, NEVER, RIGHT_NAMES, SMALL, TEXTS_NEAR_NAMES, deep, spoiled


class Kinds(unittest.TestCase):
    def test_numbers(self):
        for thing in (0, 1, 2, 60, 400, 10 ** 12, HUGE, 10 * HUGE - 1):
            self.assertIs(is_number(thing), True)

    def test_no_numbers(self):
        for thing in (-1, -2, -HUGE, True, False, None, "", "0", "1", "a", (), (0,), (1, 2), [], [0], SMALL):
            self.assertIs(is_number(thing), False)

    def test_names(self):
        for thing in RIGHT_NAMES:
            self.assertIs(is_name(thing), True)
        for sign in "abcdefghijklmnopqrstuvwxyz":
            for many in range(1, 9):
                self.assertIs(is_name(sign * many), True)

    def test_no_names(self):
        for thing in TEXTS_NEAR_NAMES:
            self.assertIs(is_name(thing), False, thing)
        for thing in (0, 1, -1, HUGE, True, False, None, (), ("a",), ["a"], [], ("a", "b")):
            self.assertIs(is_name(thing), False, thing)

    def test_no_sign_but_small_letters(self):
        for code in range(128):
            sign = chr(code)
            for text in (sign, "a" + sign, sign + "a", "a" + sign + "a"):
                self.assertIs(is_name(text), "a" <= sign <= "z", text)

    def test_ways(self):
        for thing in ((), ("a",), ("a", "b"), ("a", "a", "a"), tuple(RIGHT_NAMES), ("abcdefgh",) * 40, ("a",) * 4999):
            self.assertIs(is_way(thing), True)

    def test_no_ways(self):
        for thing in (0, 1, True, False, None, "", "a", "ab", "/", [], ["a"], (("a",),), ("a", ("b",)), ("a", None)):
            self.assertIs(is_way(thing), False, thing)
        for text in TEXTS_NEAR_NAMES:
            for thing in ((text,), ("a", text), (text, "a"), ("a", text, "b"), ("a", "b", "c", text)):
                self.assertIs(is_way(thing), False, thing)

    def test_a_thing_in_the_place_of_each_part(self):
        for thing in spoiled(("a", "b", "c")):
            self.assertIs(is_way(thing), False, thing)

    def test_any_thing(self):
        for thing in NEVER:
            for ask in (is_number, is_name, is_way):
                self.assertIs(ask(thing), False, thing)
        for thing in (deep(40), deep(40, 7), deep(40, "a"), deep(40, of=list), tuple(deep(30) for _ in range(160))):
            for ask in (is_number, is_name, is_way):
                self.assertIs(ask(thing), False)

    def test_by_name(self):
        self.assertIs(is_number(thing=3), True)
        self.assertIs(is_name(thing="a"), True)
        self.assertIs(is_way(thing=("a",)), True)

    def test_nothing_is_changed(self):
        for thing in NEVER + [["a"], [[1], ["a"]]]:
            kept = copy.deepcopy(thing)
            for ask in (is_number, is_name, is_way):
                ask(thing)
            self.assertEqual(repr(thing), repr(kept))


if __name__ == "__main__":
    unittest.main()
