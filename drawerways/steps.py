"""STEPS of hands: what is due by a hand's phase, done in one; the STATE behind it, and its EVENT.

Each function here that begins with step_ does a STEP of one phase, and tells (STATE, EVENT).
"""

from drawerways.deeds import done, is_within, why_no_two
from drawerways.errors import NoHand
from drawerways.histories import read_at
from drawerways.journals import in_done, out_done
from drawerways.paths import above
from drawerways.stateedits import (
    deed_at, fresh_row, holder_of, in_phase, is_hand, row_at, tree_at, turn_of, with_journal, with_key, with_lock,
    with_next_turn, with_nodes, with_row, with_tree, without_locks,
)
from drawerways.trees import entries_of, kind_of, lives, node_under


def is_two(deed):
    """Tell whether a DEED has two WAYS."""
    return deed[0] in ("link", "move", "swap")


def names_to_read(deed):
    """Tell of each WAY of a DEED the NAMES that are read on it ahead of the locks."""
    if deed[0] in ("look", "list"):
        return (deed[1],)
    if is_two(deed):
        return deed[1][:-1], deed[2][:-1]
    return (deed[1][:-1],)


def waiting(state, hand, what, holder):
    """Let a hand WAIT."""
    return state, (hand, "waits", what, holder)


def again(state, hand, why):
    """Let a hand begin AGAIN; the KEY stays with it."""
    k = row_at(state, hand)[0]
    free = without_locks(state, hand)
    return with_row(free, hand, fresh_row(state[0], hand, k)), (hand, "again", k, why)


def telling(state, hand, told):
    """Let a hand's DEED TELL, by which it is through."""
    hands, _, _, key, _, _ = state
    k = row_at(state, hand)[0]
    free = without_locks(state, hand)
    if key == hand:
        free = with_key(free, None)
    return with_row(free, hand, fresh_row(hands, hand, k + 1)), (hand, "told", k, told)


def doing(state, hand):
    """Let a hand's DEED be DONE, and TELL.

    Its drawers live, and nothing was moved since it began, so its WAYS still lead to these.
    """
    tree, told = done(tree_at(state), deed_at(state, hand))
    return telling(with_tree(state, tree), hand, told)


def holding(state, hand, node, phase):
    """Let a hand hold a drawer and come to a phase, or WAIT for it."""
    holder = holder_of(state, node)
    if holder is not None:
        return waiting(state, hand, node, holder)
    due = row_at(state, hand)[5]
    return in_phase(with_lock(state, hand, node), hand, phase, due), (hand, "locks", node)


def is_turned(state, hand):
    """Tell whether the TURN is another one than a hand noted."""
    return turn_of(state) != row_at(state, hand)[2]


def step_through(state, hand):
    """Do nothing any more."""
    return state, (hand, "rests")


def step_new(state, hand):
    """Take the KEY, where that is due, or begin."""
    _, _, _, key, turn, _ = state
    if is_two(deed_at(state, hand)) and key != hand:
        if key is not None:
            return waiting(state, hand, "key", key)
        return with_key(state, hand), (hand, "key")
    if turn % 2 == 1:
        return waiting(state, hand, "turn", key)
    k = row_at(state, hand)[0]
    begins = with_row(state, hand, (k, "walks", turn, (0,), 0, None))
    return standing(begins, hand), (hand, "begin", k, turn)


def standing(state, hand):
    """Tell the STATE with a hand in the phase that is due where it stands on its WAY."""
    k, _, noted, spots, reads, _ = row_at(state, hand)
    deed = deed_at(state, hand)
    ways = names_to_read(deed)
    many = len(ways[len(spots) - 1])
    kind = kind_of(tree_at(state), spots[-1])
    if reads == many and deed[0] == "look":
        return in_phase(state, hand, "last", ("found", kind, spots[-1]))
    if kind == "sheet":
        return in_phase(state, hand, "last", missing(state, hand, "sheet"))
    if reads < many:
        return in_phase(state, hand, "walks", None)
    if len(spots) < len(ways):
        return standing(with_row(state, hand, (k, "walks", noted, spots + (0,), 0, None)), hand)
    return in_phase(state, hand, "locks", None)


def missing(state, hand, word):
    """Tell how the WAY that a hand walks MISSES where it stands."""
    _, _, _, spots, reads, _ = row_at(state, hand)
    if is_two(deed_at(state, hand)):
        return word, reads, len(spots) - 1
    return word, reads


def step_walks(state, hand):
    """Read a NAME."""
    k, _, noted, spots, reads, _ = row_at(state, hand)
    ways = names_to_read(deed_at(state, hand))
    node = read_at(tree_at(state), spots[-1], ways[len(spots) - 1][reads])
    event = (hand, "walk", reads, node)
    if node is None:
        return in_phase(state, hand, "last", missing(state, hand, "none")), event
    walked = with_row(state, hand, (k, "walks", noted, spots[:-1] + (node,), reads + 1, None))
    return standing(walked, hand), event


def step_last(state, hand):
    """Tell what was walked to, or how it MISSED, where that still holds."""
    due = row_at(state, hand)[5]
    if is_two(deed_at(state, hand)):
        why = "dead" if is_dead_end(state, hand) else None
    else:
        why = "turn" if is_turned(state, hand) else None
    if why is not None:
        return again(state, hand, why)
    return telling(state, hand, due)


def is_dead_end(state, hand):
    """Tell whether a drawer on which hangs what a DEED of two WAYS would TELL in "last" lives no more."""
    _, _, _, spots, _, due = row_at(state, hand)
    if due[0] == "sheet" and due[2] == 0:
        # The one spot is the sheet itself, and what was seen of it holds without it.
        return False
    asked = spots if due[0] == "none" else spots[:1]
    return not all([lives(tree_at(state), spot) for spot in asked])


def step_locks(state, hand):
    """Hold the next one of the spots."""
    spots = row_at(state, hand)[3]
    left = [spot for spot in spots if holder_of(state, spot) != hand]
    node = next_to_hold(tree_at(state), left)
    if any([spot != node for spot in left]):
        return holding(state, hand, node, "locks")
    return holding(state, hand, node, "looks" if is_two(deed_at(state, hand)) else "commits")


def next_to_hold(tree, left):
    """Tell which of one or two spots is held first: an upper drawer ahead of one within it."""
    if len(left) == 1:
        # Perhaps of a DEED of one WAY, in the midst of a move, where the drawers may form no TREE.
        return left[0]
    one, other = left
    if stands_in(tree, one, other):
        return other
    if stands_in(tree, other, one):
        return one
    return min(one, other)


def stands_in(tree, drawer, outer):
    """Tell whether a drawer lives and stands in an outer one, near or far."""
    return lives(tree, drawer) and outer in above(tree, drawer)


def step_commits(state, hand):
    """Do a DEED of one WAY in its drawer, or find the drawer that a "drop" has to hold, too."""
    tree = tree_at(state)
    deed = deed_at(state, hand)
    drawer = row_at(state, hand)[3][0]
    if is_turned(state, hand):
        return again(state, hand, "turn")
    if not lives(tree, drawer):
        return again(state, hand, "dead")
    if deed[0] == "drop":
        node = node_under(entries_of(tree, drawer), deed[1][-1])
        if node is not None and kind_of(tree, node) == "drawer":
            return in_phase(state, hand, "lower", node), (hand, "finds", node, None)
    return doing(state, hand)


def step_lower(state, hand):
    """Hold the drawer that is to be dropped."""
    return holding(state, hand, row_at(state, hand)[5], "empties")


def step_empties(state, hand):
    """Drop a drawer that is held."""
    if is_turned(state, hand):
        return again(state, hand, "turn")
    return doing(state, hand)


def step_looks(state, hand):
    """Link, or find what a "move" or "swap" that nothing refuses is to do."""
    tree = tree_at(state)
    word, way, other = deed_at(state, hand)
    p, q = row_at(state, hand)[3]
    if not lives(tree, p) or not lives(tree, q):
        return again(state, hand, "dead")
    if word == "link":
        return doing(state, hand)
    s = node_under(entries_of(tree, p), way[-1])
    t = node_under(entries_of(tree, q), other[-1])
    told = why_no_two(tree, (word, way, other), (p, s, q, t))
    # Whether another T is full is looked at when it is held.
    if told is not None and (told != ("full",) or is_within(tree, p, t)):
        return telling(state, hand, told)
    due = (word, p, way[-1], q, other[-1], s, t)
    locks_t = word == "move" and t is not None and kind_of(tree, t) == "drawer"
    return in_phase(state, hand, "third" if locks_t else "writes", due), (hand, "finds", s, t)


def step_third(state, hand):
    """Hold the drawer that a "move" is onto."""
    return holding(state, hand, row_at(state, hand)[5][6], "checks")


def step_checks(state, hand):
    """Look whether the drawer that a "move" is onto is empty."""
    due = row_at(state, hand)[5]
    if entries_of(tree_at(state), due[6]) != ():
        return telling(state, hand, ("full",))
    return in_phase(state, hand, "writes", due), (hand, "empty", due[6])


def step_writes(state, hand):
    """Write the JOURNAL."""
    due = row_at(state, hand)[5]
    return in_phase(with_journal(state, due), hand, "turns", due), (hand, "journal", due)


def step_turns(state, hand):
    """Make the TURN odd."""
    due = row_at(state, hand)[5]
    turned = with_next_turn(state)
    return in_phase(turned, hand, "outs", due), (hand, "odd", turn_of(turned))


def step_outs(state, hand):
    """Take the first NAME, or, of a "swap", give it to the other NODE."""
    due = row_at(state, hand)[5]
    newer = with_nodes(state, out_done(tree_at(state)[0], due))
    return in_phase(newer, hand, "ins", due), (hand, "out", due[1], due[2])


def step_ins(state, hand):
    """Give the second NAME."""
    due = row_at(state, hand)[5]
    newer = with_nodes(state, in_done(tree_at(state)[0], due))
    return in_phase(newer, hand, "ends", due), (hand, "in", due[3], due[4])


def step_ends(state, hand):
    """Make the TURN even again, and tell."""
    word, _, _, _, _, s, t = row_at(state, hand)[5]
    told = ("moved", s) if word == "move" else ("swapped", s, t)
    return telling(with_next_turn(with_journal(state, None)), hand, told)


ACTIONS = {
    "new": step_new, "walks": step_walks, "last": step_last, "locks": step_locks, "commits": step_commits,
    "lower": step_lower, "empties": step_empties, "looks": step_looks, "third": step_third, "checks": step_checks,
    "writes": step_writes, "turns": step_turns, "outs": step_outs, "ins": step_ins, "ends": step_ends,
    "through": step_through,
}


def step(state, hand):
    """Tell the STATE behind a STEP of a hand, and the EVENT."""
    if not is_hand(state[0], hand):
        raise NoHand(hand)
    action = ACTIONS[row_at(state, hand)[1]]
    return action(state, hand)
