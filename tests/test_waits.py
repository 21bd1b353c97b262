"""[36], [37], [39]: WAITS, who WAITS for whom, RINGS or RANKS, LOCKS that CLIMB."""

import copy
import unittest
from itertools import permutations

from drawerways.waitchecker import lets_ranks, lets_ring
from drawerways.waits import climbs, is_waits, ring_or_ranks, waiting_pairs

from held import EIGHT, LONG, RIGHT, RINGS, SELF, STILL, TAIL, THREE, TWO, climb, pairs, rings, small_waits, waits
from things import HUGE, NEVER, changed, deep, just_tuples, spoiled

WRONG = [
    [], [(0, (), None)], ((0, (), None), (0, (), None)), ((1, (), None), (0, (), None)), ((0, (), None, None),),
    ((0, ()),), ((0,),), (0, (), None), ((0, [], None),), ([0, (), None],), ((0, (1, 1), None),), ((0, (2, 1), None),),
    ((0, (1,), None), (1, (1,), None)), ((0, (1, 3), None), (1, (2, 3), None)), ((True, (), None),),
    ((0, (True,), None),), ((0, (), True),), ((0, (), False),), ((0, (0,), False),), ((-1, (), None),),
    ((0, (-1,), None),), ((0, (), -1),), ((0, (None,), None),), ((0, None, None),), ((None, (), None),), ((0, (), ()),),
    ((0, (), (1,)),), ((0, 1, None),), ((0, (), "a"),), (("a", (), None),), ((0, ("a",), None),), ((0, "", None),),
    ((0, (0, False), None),), ((0, (0, True), None),), ((0, (), None), ()), ((0, (), None), None), ((),), (None,),
]


class IsWaits(unittest.TestCase):
    def test_waits(self):
        for thing in RIGHT:
            self.assertIs(is_waits(thing), True, thing)
            self.assertTrue(waits(thing))

    def test_no_waits(self):
        for thing in WRONG:
            self.assertIs(is_waits(thing), False, thing)
            self.assertFalse(waits(thing))

    def test_more_rows_than_are_handed_in(self):
        self.assertIs(is_waits(tuple((hand, (hand,), None) for hand in range(30))), True)

    def test_small_changes(self):
        seen = set()
        for rows in RIGHT:
            for thing in list(changed(rows)) + list(spoiled(rows)):
                due = waits(thing)
                seen.add(due)
                self.assertIs(is_waits(thing), due, thing)
        self.assertEqual(seen, {True, False})

    def test_any_thing(self):
        things = [0, HUGE, "a", "waits", deep(40, 0), (deep(39),), ((0, deep(37), None),), ((0, (), deep(37)),)]
        for thing in NEVER + things:
            self.assertIs(is_waits(thing), False, thing)

    def test_by_name_and_nothing_is_changed(self):
        self.assertIs(is_waits(thing=()), True)
        for thing in WRONG:
            kept = copy.deepcopy(thing)
            is_waits(thing)
            self.assertEqual(repr(thing), repr(kept))


class WaitingPairs(unittest.TestCase):
    def test_pairs(self):
        for rows, due in (
            ((), ()), (STILL, ()), (SELF, ((2, 2),)), (TWO, ((0, 1), (1, 0))), (THREE, ((1, 4), (4, 9), (9, 1))),
            (RINGS, ((0, 1), (1, 0), (2, 3), (3, 2))), (TAIL, ((0, 4), (1, 0), (4, 7), (7, 4), (8, 1))),
            (LONG, ((0, 2), (2, 3), (3, 1), (5, 3))), (((0, (), 3),), ()), (((0, (0,), None),), ()),
            (((0, (0,), 1), (1, (), 0)), ((1, 0),)), (((5, (HUGE,), HUGE),), ((5, 5),)),
        ):
            self.assertEqual(waiting_pairs(rows), due)
            self.assertEqual(waiting_pairs(rows=rows), due)

    def test_all(self):
        for rows in list(small_waits()) + RIGHT:
            found = waiting_pairs(rows)
            self.assertEqual(found, tuple(sorted(pairs(rows))))
            self.assertTrue(just_tuples(found))


class RingOrRanks(unittest.TestCase):
    def test_rings(self):
        for rows in (SELF, TWO, THREE, RINGS, TAIL, EIGHT, ((HUGE, (HUGE,), HUGE),)):
            word, ring = ring_or_ranks(rows)
            self.assertEqual(word, "ring")
            self.assertEqual(lets_ring(rows, ring), len(ring))
        self.assertEqual(set(ring_or_ranks(SELF)[1]), {2})
        self.assertEqual(set(ring_or_ranks(TAIL)[1]), {4, 7})
        self.assertEqual(set(ring_or_ranks(EIGHT)[1]), set(range(8)))

    def test_ranks(self):
        for rows in ((), STILL, LONG, ((0, (), None),), ((0, (), 0),), ((0, (0,), None), (1, (), 0))):
            word, ranks = ring_or_ranks(rows)
            self.assertEqual(word, "ranks")
            self.assertEqual(lets_ranks(rows, ranks), max((number for _, number in ranks), default=0))
        self.assertEqual(ring_or_ranks(()), ("ranks", ()))

    def test_all(self):
        many = {"ring": 0, "ranks": 0}
        for rows in list(small_waits()) + RIGHT:
            told = ring_or_ranks(rows)
            word, thing = told
            many[word] += 1
            self.assertTrue(just_tuples(told) and len(told) == 2)
            self.assertEqual(word, "ring" if rings(rows) else "ranks")
            if word == "ring":
                self.assertTrue(thing)
                self.assertTrue(all(step in pairs(rows) for step in zip(thing, thing[1:] + thing[:1])))
                self.assertEqual(lets_ring(rows, thing), len(thing))
            else:
                self.assertEqual([hand for hand, _ in thing], [row[0] for row in rows])
                ranks = dict(thing)
                self.assertTrue(all(ranks[one] > ranks[other] >= 0 for one, other in pairs(rows)))
                lets_ranks(rows, thing)
        self.assertTrue(min(many.values()) > 100, many)

    def test_by_name_and_nothing_is_changed(self):
        self.assertEqual(ring_or_ranks(rows=()), ("ranks", ()))
        kept = copy.deepcopy(RIGHT)
        for rows in RIGHT:
            waiting_pairs(rows)
            ring_or_ranks(rows)
            climbs(rows, order=(3, 1))
        self.assertEqual(repr(RIGHT), repr(kept))


class Climbs(unittest.TestCase):
    def test_by_the_rising_order(self):
        for rows, due in (
            ((), True), (STILL, True), (SELF, False), (TWO, False), (((0, (0,), 1),), True), (((0, (1,), 0),), False),
            (((0, (0, 3), 4),), True), (((0, (0, 3), 2),), False), (((0, (0, 3), 3),), False), (((0, (), 0),), True),
            (((0, (9, 10), 11), (1, (2,), 3)), True), (((0, (9, 10), 11), (1, (4,), 3)), False), (LONG, False),
            (((0, (2, 10), 9),), False), (((0, (2,), 10),), True), (((0, (HUGE,), HUGE + 1),), True),
        ):
            self.assertIs(climbs(rows), due, rows)
            self.assertIs(climbs(rows, order=()), due, rows)
            self.assertIs(climbs(order=(), rows=rows), due, rows)

    def test_by_other_orders(self):
        rows = ((0, (3,), 1), (1, (1, 4), 2))
        self.assertIs(climbs(rows), False)
        for order, due in (
            ((3, 1, 4, 2), True), ((4, 3, 1, 2), True), ((3, 4, 2, 1), False), ((2, 3, 4, 1), False),
            ((1, 2, 3, 4), False), ((1, 3, 4, 2), False), ((9, 3, 8, 1, 4, 7, 2), True),
        ):
            self.assertIs(climbs(rows, order=order), due, order)
        self.assertIs(climbs(((0, (1,), 2),), order=(2, 1)), False)
        self.assertIs(climbs(((0, (2,), 2),), order=(2, 1)), False)

    def test_by_an_order_that_lacks_some(self):
        rows = ((0, (3,), 1), (1, (1, 4), 2))
        for order, due in (
            ((3,), False), ((3, 4, 1), True), ((3, 1), False), ((4, 3, 1), True), ((4,), False), ((1, 4), False),
            ((2,), False), ((9,), False), ((9, 3, 1, 4), True), ((3, 1, 4), True), ((3, 4), True), ((4, 3), True),
        ):
            self.assertIs(climbs(rows, order=order), due, order)
        # Neither stands in the order: the rising one decides.
        self.assertIs(climbs(((0, (5,), 6),), order=(9, 1)), True)
        self.assertIs(climbs(((0, (6,), 5),), order=(9, 1)), False)
        # One that isn't in the order stands behind all that are.
        self.assertIs(climbs(((0, (5,), 9),), order=(9, 1)), False)
        self.assertIs(climbs(((0, (9,), 5),), order=(9, 1)), True)
        self.assertIs(climbs(((0, (9,), 0),), order=(9, 1)), True)
        self.assertIs(climbs(((0, (7,), 7),), order=(9, 1)), False)

    def test_all(self):
        orders = [order for many in range(4) for order in permutations((1, 4, 5), many)] + [(9, 4), (5, 9, 1)]
        for rows in small_waits():
            told = [climbs(rows, order=order) for order in orders]
            self.assertEqual(told, [climb(rows, order) for order in orders], rows)
            if any(told):
                self.assertEqual(ring_or_ranks(rows)[0], "ranks")

    def test_the_order_by_name_alone(self):
        with self.assertRaises(TypeError):
            climbs(STILL, (1, 2))


if __name__ == "__main__":
    unittest.main()
