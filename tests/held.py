"""WAITS, and the document's words on them once more."""

from itertools import product

from model import number
from things import HUGE

# No hand waits; one waits for itself; rings of two and of three; two rings; WAITS that come to a ring; none.
STILL = ((0, (1, 2), None), (3, (), None))
SELF = ((2, (7,), 7),)
TWO = ((0, (0,), 1), (1, (1,), 0))
THREE = ((1, (5,), 6), (4, (6, 8), 7), (9, (7,), 5))
RINGS = ((0, (0,), 1), (1, (1,), 0), (2, (2,), 3), (3, (3,), 2))
TAIL = ((0, (0,), 5), (1, (1,), 0), (4, (3, 5), 9), (7, (9,), 3), (8, (), 1))
LONG = ((0, (), 2), (1, (3,), None), (2, (2,), 4), (3, (4, 9), 3), (5, (7,), 9), (6, (), 8))
EIGHT = tuple((hand, (hand,), (hand + 1) % 8) for hand in range(8))

RIGHT = [(), STILL, SELF, TWO, THREE, RINGS, TAIL, LONG, EIGHT, ((HUGE, (HUGE,), HUGE),), ((0, (), None),)]


def waits(thing):
    """Whether a thing is WAITS."""
    if type(thing) is not tuple:
        return False
    held = []
    for row in thing:
        if type(row) is not tuple or len(row) != 3 or not number(row[0]) or type(row[1]) is not tuple:
            return False
        if not all(number(lock) for lock in row[1]) or list(row[1]) != sorted(set(row[1])):
            return False
        if row[2] is not None and not number(row[2]):
            return False
        held += row[1]
    hands = [row[0] for row in thing]
    return hands == sorted(set(hands)) and len(held) == len(set(held))


def pairs(rows):
    """All pairs of hands, the one WAITING for the other."""
    return [
        (one[0], other[0]) for one in rows for other in rows
        if one[2] is not None and any(lock == one[2] for lock in other[1])
    ]


def rings(rows):
    """All hands that come to themselves again by WAITING."""
    found = set(pairs(rows))
    for _ in rows:
        found |= {(one, last) for one, other in found for first, last in found if other == first}
    return {one for one, other in found if one == other}


def small_waits():
    """All WAITS of hands 0, 2 and 3 and LOCKS 1, 4 and 5."""
    hands, locks = (0, 2, 3), (1, 4, 5)
    for held in product((None,) + hands, repeat=3):
        holds = {hand: tuple(lock for lock, by in zip(locks, held) if by == hand) for hand in hands}
        for wants in product((None,) + locks, repeat=3):
            yield tuple((hand, holds[hand], want) for hand, want in zip(hands, wants))


def climb(rows, order):
    """Whether LOCKS CLIMB by an order."""
    locks = {lock for _, holds, wants in rows for lock in holds + (wants,) if lock is not None}
    whole = list(order) + sorted(locks - set(order))
    return all(
        whole.index(wants) > whole.index(lock) for _, holds, wants in rows if wants is not None for lock in holds)
