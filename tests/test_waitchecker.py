"""[37], [38]: the checkers of RINGS and RANKS."""

import copy
import unittest
from itertools import product

from drawerways.errors import NoPaper, PaperError
from drawerways.waitchecker import lets_ranks, lets_ring
from drawerways.waits import ring_or_ranks

from held import EIGHT, LONG, RIGHT, RINGS, SELF, STILL, TAIL, THREE, TWO, pairs, small_waits
from model import number
from things import HUGE, NEVER, changed, deep, just_tuples, spoiled


class Checker(unittest.TestCase):
    def refused(self, check, word, at, rows, thing):
        with self.assertRaises(NoPaper) as caught:
            check(rows, thing)
        self.assertIs(type(caught.exception), NoPaper)
        self.assertIsInstance(caught.exception, PaperError)
        self.assertEqual((caught.exception.word, caught.exception.at), (word, at), (rows, thing))
        self.assertTrue(just_tuples(caught.exception.at))

    def many(self, check, due, rows, thing):
        found = check(rows, thing)
        self.assertEqual(found, due, (rows, thing))
        self.assertIs(type(found), int)

    def nothing_is_changed(self, check, things):
        for rows in RIGHT:
            for thing in things:
                kept = copy.deepcopy((rows, thing))
                try:
                    check(rows, thing)
                except NoPaper:
                    pass
                self.assertEqual(repr((rows, thing)), repr(kept))


def why_no_ring(rows, thing):
    """(word, at) that is due for a thing, None where it is a RING."""
    if type(thing) is not tuple or not thing or any(not number(hand) for hand in thing):
        return "shape", -1
    for k, hand in enumerate(thing):
        if not any(row[0] == hand for row in rows):
            return "hand", k
        if (hand, thing[(k + 1) % len(thing)]) not in pairs(rows):
            return "waits", k
    return None


class Ring(Checker):
    def refused_ring(self, word, at, rows, thing):
        self.refused(lets_ring, word, at, rows, thing)

    def test_rings(self):
        for rows, ring in (
            (SELF, (2,)), (TWO, (0, 1)), (TWO, (1, 0)), (THREE, (1, 4, 9)), (THREE, (4, 9, 1)), (THREE, (9, 1, 4)),
            (RINGS, (0, 1)), (RINGS, (3, 2)), (TAIL, (4, 7)), (EIGHT, tuple(range(8))), (EIGHT, (7,) + tuple(range(7))),
        ):
            self.many(lets_ring, len(ring), rows, ring)
            # A hand may stand in it several times; each place counts.
            self.many(lets_ring, 2 * len(ring), rows, ring * 2)
            self.many(lets_ring, 25 * len(ring), rows, ring * 25)
        self.many(lets_ring, 5000, SELF, (2,) * 5000)

    def test_shape(self):
        for rows in RIGHT:
            for thing in NEVER + [(), [2], [0, 1], 0, 2, HUGE, "a", "ring", (2, True), (2, -1), (2, None), (2, (2,)),
                                  ((2,),), ("2",), deep(40, 2), deep(40, 2, list), (True, False), (2, [2])]:
                if thing != (0, 0):
                    self.refused_ring("shape", -1, rows, thing)

    def test_hand(self):
        self.refused_ring("hand", 0, (), (0,))
        self.refused_ring("hand", 0, SELF, (0,))
        self.refused_ring("hand", 0, SELF, (HUGE, 2))
        self.refused_ring("hand", 0, TWO, (2, 0, 1))
        self.refused_ring("hand", 0, SELF, (7,))

    def test_waits(self):
        self.refused_ring("waits", 0, STILL, (0,))
        self.refused_ring("waits", 0, STILL, (0, 3))
        self.refused_ring("waits", 0, TWO, (0,))
        self.refused_ring("waits", 2, TWO, (0, 1, 0))
        self.refused_ring("waits", 0, TWO, (0, 0, 1))
        self.refused_ring("waits", 0, THREE, (9, 4, 1))
        self.refused_ring("waits", 1, THREE, (1, 4))
        self.refused_ring("waits", 2, THREE, (1, 4, 9, 4))
        self.refused_ring("waits", 1, RINGS, (0, 1, 2, 3))
        self.refused_ring("waits", 2, TAIL, (0, 4, 7))
        self.refused_ring("waits", 3, LONG, (0, 2, 3, 1))
        self.refused_ring("waits", 7, EIGHT, tuple(range(8)) + (1,))

    def test_a_hand_without_a_row_behind_another_one(self):
        self.refused_ring("waits", 1, TWO, (0, 1, 2))
        self.refused_ring("waits", 0, TWO, (0, 2, 1))
        self.refused_ring("waits", 0, SELF, (2, 9))
        self.refused_ring("hand", 0, SELF, (9, 2))
        self.refused_ring("waits", 0, STILL, (0, 9))

    def test_all(self):
        let = 0
        things = [thing for many in range(5) for thing in product((0, 2, 3, 7), repeat=many)]
        for rows in list(small_waits())[::13]:
            for thing in things:
                due = why_no_ring(rows, thing)
                if due is None:
                    let += 1
                    self.many(lets_ring, len(thing), rows, thing)
                else:
                    self.refused_ring(due[0], due[1], rows, thing)
        self.assertTrue(let > 50)

    def test_small_changes(self):
        for rows, ring in ((SELF, (2,)), (TWO, (1, 0)), (THREE, (4, 9, 1)), (TAIL, (7, 4, 7, 4))):
            for thing in [ring] + list(changed(ring)) + list(spoiled(ring)):
                due = why_no_ring(rows, thing)
                if due is None:
                    self.many(lets_ring, len(thing), rows, thing)
                else:
                    self.refused_ring(due[0], due[1], rows, thing)

    def test_by_name_and_nothing_is_changed(self):
        self.assertEqual(lets_ring(thing=(2,), rows=SELF), 1)
        self.nothing_is_changed(lets_ring, NEVER + [(0, 1), (2,), [2], ([2],)])


def why_no_ranks(rows, thing):
    """(word, at) that is due for a thing, None where they are RANKS."""
    if type(thing) is not tuple:
        return "shape", -1
    for pair in thing:
        if type(pair) is not tuple or len(pair) != 2 or not number(pair[0]) or not number(pair[1]):
            return "shape", -1
    if tuple(hand for hand, _ in thing) != tuple(row[0] for row in rows):
        return "hands", -1
    wrong = [(one, other) for one, other in pairs(rows) if dict(thing)[one] <= dict(thing)[other]]
    return ("rank", min(wrong)) if wrong else None


RANKS = ((0, 3), (1, 0), (2, 2), (3, 1), (5, 2), (6, 0))


class Ranks(Checker):
    def refused_ranks(self, word, at, rows, thing):
        self.refused(lets_ranks, word, at, rows, thing)

    def test_ranks(self):
        self.many(lets_ranks, 0, (), ())
        self.many(lets_ranks, 0, STILL, ((0, 0), (3, 0)))
        self.many(lets_ranks, 9, STILL, ((0, 9), (3, 4)))
        self.many(lets_ranks, 9, STILL, ((0, 4), (3, 9)))
        self.many(lets_ranks, 3, LONG, RANKS)
        self.many(lets_ranks, HUGE, LONG, RANKS[:4] + ((5, HUGE), (6, 7)))
        self.many(lets_ranks, 40, LONG, ((0, 40), (1, 10), (2, 39), (3, 11), (5, 12), (6, 13)))
        self.many(lets_ranks, 1, ((0, (), 3), (4, (3,), None)), ((0, 1), (4, 0)))

    def test_shape(self):
        for rows in RIGHT:
            for thing in NEVER + [0, "a", "ranks", [], list(RANKS), (0, 3), ((0, 3, 1),), ((0,),), ((),), ([0, 3],),
                                  ((True, 0),), ((0, True),), ((0, -1),), ((0, None),), (("0", 0),), deep(40, 0),
                                  RANKS + (None,), RANKS[:5] + ((6, False),), ((0, (0,)),), deep(40, (), list)]:
                self.refused_ranks("shape", -1, rows, thing)

    def test_hands(self):
        self.refused_ranks("hands", -1, (), ((0, 0),))
        self.refused_ranks("hands", -1, STILL, ())
        for thing in (
            RANKS[:5], RANKS[1:], RANKS[::-1], RANKS + RANKS[5:], RANKS + ((7, 0),), RANKS[:1] + RANKS,
            ((1, 3),) + RANKS[1:], RANKS[:5] + ((HUGE, 0),), RANKS[:4] + (RANKS[5], RANKS[4]), (),
        ):
            self.refused_ranks("hands", -1, LONG, thing)

    def test_rank(self):
        self.refused_ranks("rank", (0, 2), LONG, ((0, 2), (1, 0), (2, 2), (3, 1), (5, 2), (6, 0)))
        self.refused_ranks("rank", (0, 2), LONG, ((0, 1), (1, 9), (2, 2), (3, 1), (5, 0), (6, 0)))
        self.refused_ranks("rank", (2, 3), LONG, ((0, 3), (1, 0), (2, 1), (3, 1), (5, 0), (6, 0)))
        self.refused_ranks("rank", (3, 1), LONG, ((0, 3), (1, 1), (2, 2), (3, 1), (5, 0), (6, 0)))
        self.refused_ranks("rank", (5, 3), LONG, ((0, 3), (1, 0), (2, 2), (3, 1), (5, 1), (6, 0)))
        self.refused_ranks("rank", (2, 2), SELF, ((2, 0),))
        self.refused_ranks("rank", (2, 2), SELF, ((2, HUGE),))
        self.refused_ranks("rank", (0, 1), TWO, ((0, 0), (1, 0)))
        self.refused_ranks("rank", (0, 1), TWO, ((0, 0), (1, 1)))
        self.refused_ranks("rank", (1, 0), TWO, ((0, 1), (1, 0)))
        self.refused_ranks("rank", (9, 1), THREE, ((1, 2), (4, 1), (9, 0)))

    def test_the_first_of_several(self):
        self.refused_ranks("shape", -1, LONG, ((5, 0), (0, True)))
        self.refused_ranks("hands", -1, LONG, ((0, 0),) * 6)
        self.refused_ranks("rank", (0, 2), LONG, tuple((hand, 0) for hand, _ in RANKS))

    def test_all(self):
        let = 0
        for rows in list(small_waits())[::7]:
            for numbers in product((0, 1, 3), repeat=3):
                thing = tuple(zip((0, 2, 3), numbers))
                due = why_no_ranks(rows, thing)
                if due is None:
                    let += 1
                    self.many(lets_ranks, max(numbers), rows, thing)
                    self.assertEqual(ring_or_ranks(rows)[0], "ranks")
                else:
                    self.refused_ranks(due[0], due[1], rows, thing)
        self.assertTrue(let > 100)

    def test_small_changes(self):
        for rows, ranks in ((LONG, RANKS), (STILL, ((0, 0), (3, 2))), ((), ()), (TWO, ((0, 1), (1, 0)))):
            for thing in [ranks] + list(changed(ranks)) + list(spoiled(ranks)):
                due = why_no_ranks(rows, thing)
                if due is None:
                    self.many(lets_ranks, max([number for _, number in thing], default=0), rows, thing)
                else:
                    self.refused_ranks(due[0], due[1], rows, thing)

    def test_by_name_and_nothing_is_changed(self):
        self.assertEqual(lets_ranks(thing=RANKS, rows=LONG), 3)
        self.nothing_is_changed(lets_ranks, NEVER + [RANKS, list(RANKS), ([0, 0],), ((2, 0),)])


if __name__ == "__main__":
    unittest.main()
