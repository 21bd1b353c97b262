"""STATES: HANDS, what is on the disk, who holds what, and where each hand is."""

from drawerways.errors import NoStep
from drawerways.stateedits import fresh_row, tree_at, turn_of


def begun(tree, hands):
    """Tell the STATE at the beginning."""
    nodes, made = tree
    rows = tuple([fresh_row(hands, hand, 0) for hand in range(len(hands))])
    return hands, (nodes, made, None), (), None, 0, rows


def is_quiet(state):
    """Tell whether all hands of a STATE are through."""
    return all([row[1] == "through" for row in state[5]])


def tree_of(state):
    """Tell the TREE of a STATE; refuse one in the midst of a move, where the TURN is odd."""
    if turn_of(state) % 2 == 1:
        raise NoStep("turn")
    return tree_at(state)
