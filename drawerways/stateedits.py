"""STATES looked at, and STATES with one thing changed: what STEPS are made of."""

from drawerways.kinds import is_number


def is_hand(hands, thing):
    """Tell whether a thing is the number of one of the HANDS."""
    return is_number(thing) and thing < len(hands)


def row_at(state, hand):
    """Tell (k, phase, noted, spots, reads, due) of a hand."""
    return state[5][hand]


def deed_at(state, hand):
    """Tell the DEED that a hand is at."""
    return state[0][hand][row_at(state, hand)[0]]


def tree_at(state):
    """Tell (nodes, made) of a STATE, which is no TREE in the midst of a move."""
    nodes, made, _ = state[1]
    return nodes, made


def turn_of(state):
    """Tell the TURN of a STATE."""
    return state[4]


def holder_of(state, node):
    """Tell the hand that holds a drawer, None where none does."""
    for other, hand in state[2]:
        if other == node:
            return hand
    return None


def with_row(state, hand, row):
    """Tell the STATE with this row of a hand."""
    hands, disk, locks, key, turn, rows = state
    return hands, disk, locks, key, turn, rows[:hand] + (row,) + rows[hand + 1:]


def in_phase(state, hand, phase, due):
    """Tell the STATE with a hand in this phase, and what is due there."""
    k, _, noted, spots, reads, _ = row_at(state, hand)
    return with_row(state, hand, (k, phase, noted, spots, reads, due))


def with_disk(state, disk):
    """Tell the STATE with this on the disk."""
    hands, _, locks, key, turn, rows = state
    return hands, disk, locks, key, turn, rows


def with_tree(state, tree):
    """Tell the STATE with this TREE on the disk, the JOURNAL as it is."""
    nodes, made = tree
    _, _, journal = state[1]
    return with_disk(state, (nodes, made, journal))


def with_nodes(state, nodes):
    """Tell the STATE with these NODES on the disk."""
    return with_tree(state, (nodes, tree_at(state)[1]))


def with_journal(state, journal):
    """Tell the STATE with this JOURNAL on the disk, or with none."""
    nodes, made = tree_at(state)
    return with_disk(state, (nodes, made, journal))


def with_lock(state, hand, node):
    """Tell the STATE with a drawer held by a hand."""
    hands, disk, locks, key, turn, rows = state
    return hands, disk, tuple(sorted(locks + ((node, hand),))), key, turn, rows


def with_key(state, key):
    """Tell the STATE with the KEY held by a hand, or by none."""
    hands, disk, locks, _, turn, rows = state
    return hands, disk, locks, key, turn, rows


def with_next_turn(state):
    """Tell the STATE with the TURN one more."""
    hands, disk, locks, key, turn, rows = state
    return hands, disk, locks, key, turn + 1, rows


def without_locks(state, hand):
    """Tell the STATE with all free that a hand held, but the KEY."""
    hands, disk, locks, key, turn, rows = state
    return hands, disk, tuple([lock for lock in locks if lock[1] != hand]), key, turn, rows


def fresh_row(hands, hand, k):
    """Tell the row of a hand that is to begin with its TASK number k, or has none left."""
    phase = "new" if k < len(hands[hand]) else "through"
    return k, phase, None, (), 0, None
