"""[47]: the checker of MOMENTS that HAD what a WALK tells."""

import copy
import unittest

from drawerways.errors import NoPaper, PaperError
from drawerways.historychecker import lets_moment

from pasts import ALIKE, CARRIED, HISTORIES, ONE, all_moments, had, looks, walk
from things import HUGE, NEVER, deep, just_tuples, ways


class Moments(unittest.TestCase):
    def refused(self, word, at, history, way, thing, moments):
        with self.assertRaises(NoPaper) as caught:
            lets_moment(history, way, thing, moments=moments)
        self.assertIs(type(caught.exception), NoPaper)
        self.assertIsInstance(caught.exception, PaperError)
        self.assertEqual((caught.exception.word, caught.exception.at), (word, at), (way, thing, moments))
        self.assertTrue(just_tuples(caught.exception.at))

    def test_some_that_had_it(self):
        for history, way, moments, thing in (
            (ONE, ("a",), (0,), 0), (ALIKE, ("a", "x"), (0, 2), 0), (ALIKE, ("a", "x"), (0, 2), 1),
            (ALIKE, ("a", "x"), (0, 2), 2), (CARRIED, ("b", "a"), (0, 4), 0), (CARRIED, ("b", "a"), (0, 4), 4),
        ):
            self.assertIs(lets_moment(history, way, thing, moments=moments), True)

    def test_shape(self):
        for thing in NEVER + ["a", (), (0,), [0], "0", deep(40, 0), deep(40, 0, list), ((0, 0),)]:
            self.refused("shape", -1, ONE, ("a",), thing, (0,))
            self.refused("shape", -1, CARRIED, ("b", "a"), thing, (0, 4))
            self.refused("shape", -1, CARRIED, ("b", "a"), thing, (1, 1))

    def test_span(self):
        for thing in (1, 2, HUGE):
            self.refused("span", -1, ONE, ("a",), thing, (0,))
        for thing in (0, 2, 3, HUGE):
            self.refused("span", -1, ALIKE, ("a",), thing, (1,))
        self.refused("span", -1, CARRIED, ("a", "b", "a"), 0, (1, 3, 4))
        self.refused("span", -1, CARRIED, ("a", "b", "a"), 5, (1, 3, 4))
        # Behind the END, though a NAME is left whose MOMENT it is.
        self.refused("span", -1, ALIKE, ("b", "x"), 1, (0, 2))
        self.refused("span", -1, ALIKE, ("b", "x"), 2, (0, 2))
        self.refused("span", -1, ALIKE, ("x", "x"), 2, (1, 2))
        self.assertIs(lets_moment(ALIKE, ("b", "x"), 0, moments=(0, 2)), True)

    def test_look(self):
        self.refused("look", ("none", 0), CARRIED, ("b", "a"), 1, (0, 4))
        self.refused("look", ("sheet", 1), CARRIED, ("b", "a"), 2, (0, 4))
        self.refused("look", ("none", 0), CARRIED, ("b", "a"), 3, (0, 4))
        self.refused("look", ("found", "sheet", 3), CARRIED, ("a", "b", "a"), 1, (1, 4, 4))
        self.assertIs(lets_moment(CARRIED, ("a", "b", "a"), 4, moments=(1, 4, 4)), True)

    def test_all(self):
        words = set()
        for history in HISTORIES:
            for way in ways(("a", "b", "c"), 3)[1:]:
                seen = looks(history, way)
                for moments in all_moments(history, len(way)):
                    _, end = walk(history, way, moments)
                    right = had(history, way, moments)
                    for thing in range(len(history) + 1):
                        if not moments[0] <= thing <= end:
                            words.add("span")
                            self.refused("span", -1, history, way, thing, moments)
                        elif thing in right:
                            words.add("let")
                            self.assertIs(lets_moment(history, way, thing, moments=moments), True)
                        else:
                            words.add(seen[thing][0])
                            self.refused("look", seen[thing], history, way, thing, moments)
        self.assertEqual(words, {"span", "let", "found", "none", "sheet"})

    def test_by_name(self):
        self.assertIs(lets_moment(moments=(0,), thing=0, way=("a",), history=ONE), True)
        with self.assertRaises(TypeError):
            lets_moment(ONE, ("a",), 0, (0,))

    def test_nothing_is_changed(self):
        for thing in NEVER + [0, 1, [0], HUGE]:
            kept = copy.deepcopy((CARRIED, thing))
            try:
                lets_moment(CARRIED, ("b", "a"), thing, moments=(0, 4))
            except NoPaper:
                pass
            self.assertEqual(repr((CARRIED, thing)), repr(kept))


if __name__ == "__main__":
    unittest.main()
