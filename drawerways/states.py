"""STATES: HANDS, what is on the disk, who holds what, and where each hand is."""

from drawerways.errors import NoStep


def begun(tree, hands):
    """Tell the STATE at the beginning."""
    nodes, made = tree
    rows = tuple([(0, "new" if deeds != () else "through", None, (), 0, None) for deeds in hands])
    return hands, (nodes, made, None), (), None, 0, rows


def is_quiet(state):
    """Tell whether all hands of a STATE are through."""
    return all([row[1] == "through" for row in state[5]])


def tree_of(state):
    """Tell the TREE of a STATE; refuse one in the midst of a move, where the TURN is odd."""
    _, disk, _, _, turn, _ = state
    if turn % 2 == 1:
        raise NoStep("turn")
    nodes, made, _ = disk
    return nodes, made
