"""The checkers of RINGS and RANKS: they seek nothing, and what they let by is so."""

from drawerways.errors import NoPaper
from drawerways.kinds import is_number, is_pair_of_numbers
from drawerways.waits import waiting_pairs


def lets_ring(rows, thing):
    """Tell how many hands a RING of WAITS has; refuse any other thing."""
    if not isinstance(thing, tuple) or thing == () or not all([is_number(hand) for hand in thing]):
        raise NoPaper("shape", -1)
    hands = [row[0] for row in rows]
    pairs = waiting_pairs(rows)
    for k, pair in enumerate(zip(thing, thing[1:] + thing[:1])):
        if pair[0] not in hands:
            raise NoPaper("hand", k)
        if pair not in pairs:
            raise NoPaper("waits", k)
    return len(thing)


def lets_ranks(rows, thing):
    """Tell the greatest NUMBER of RANKS of WAITS, 0 of none; refuse any other thing."""
    if not isinstance(thing, tuple) or not all([is_pair_of_numbers(pair) for pair in thing]):
        raise NoPaper("shape", -1)
    if [pair[0] for pair in thing] != [row[0] for row in rows]:
        raise NoPaper("hands", -1)
    ranks = dict(thing)
    for pair in waiting_pairs(rows):
        one, other = pair
        if ranks[one] <= ranks[other]:
            raise NoPaper("rank", pair)
    return max(list(ranks.values()), default=0)
