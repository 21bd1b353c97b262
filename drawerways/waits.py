"""WAITS of hands for LOCKS: who WAITS for whom, RINGS or RANKS, and whether LOCKS CLIMB."""

from drawerways.kinds import is_number, is_tuple_of, rises


def is_waits(thing):
    """Tell whether a thing is WAITS."""
    if not isinstance(thing, tuple) or not all([is_wait(row) for row in thing]):
        return False
    locks = [lock for row in thing for lock in row[1]]
    return rises([row[0] for row in thing]) and rises(sorted(locks))


def is_wait(thing):
    """Tell whether a thing is (hand, holds, wants), looked at alone."""
    if not is_tuple_of(thing, 3):
        return False
    hand, holds, wants = thing
    if not isinstance(holds, tuple) or not all([is_number(lock) for lock in holds]) or not rises(holds):
        return False
    return is_number(hand) and (wants is None or is_number(wants))


def waiting_pairs(rows):
    """Tell all pairs (one, other) of hands of WAITS, one WAITING for other, rising."""
    holders = {lock: hand for hand, holds, _ in rows for lock in holds}
    return tuple([(hand, holders[wants]) for hand, _, wants in rows if wants in holders])


def ring_or_ranks(rows):
    """Tell ("ring", RING) of WAITS, or ("ranks", RANKS)."""
    # A LOCK is held by one hand at most, so a hand WAITS for one at most.
    waits_for = dict(waiting_pairs(rows))
    ranks = []
    for row in rows:
        walked, again = walked_from(waits_for, row[0])
        if again is not None:
            return "ring", tuple(walked[walked.index(again):])
        ranks.append((row[0], len(walked) - 1))
    return "ranks", tuple(ranks)


def walked_from(waits_for, hand):
    """Tell the hands that one comes to from a hand on, each once, and the one it then comes to again, or None."""
    walked = [hand]
    while walked[-1] in waits_for:
        following = waits_for[walked[-1]]
        if following in walked:
            return walked, following
        walked.append(following)
    return walked, None


def climbs(rows, *, order=()):
    """Tell whether LOCKS CLIMB in WAITS, by an order of LOCKS or by the rising one."""
    # LOCKS that aren't in the order stand behind all that are.
    heights = {lock: (0, place) for place, lock in enumerate(order)}
    for _, holds, wants in rows:
        if wants is None:
            continue
        height = heights.get(wants, (1, wants))
        if not all([heights.get(lock, (1, lock)) < height for lock in holds]):
            return False
    return True
