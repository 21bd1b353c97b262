"""BACKS: DEEDS by which the rows are as they were ahead of a DEED."""

from drawerways.deeds import done
from drawerways.paths import way_through, ways_to
from drawerways.trees import lives


def back_of(tree, deed):
    """Tell a BACK of a DEED on a TREE, None where there is none."""
    newer, told = done(tree, deed)
    word = told[0]
    if word == "made":
        return (("drop", deed[1]),)
    if word == "linked":
        return (("drop", deed[2]),)
    if word == "swapped":
        return (deed,)
    if word == "dropped":
        return back_of_drop(newer, deed, told[1])
    if word == "moved":
        return back_of_move(tree, newer, deed)
    return ()


def back_of_drop(newer, deed, node):
    """Tell a BACK of a "drop" that took a NAME of this NODE, newer the TREE behind it."""
    if not lives(newer, node):
        return None
    return (link_again(newer, node, deed[1]),)


def back_of_move(tree, newer, deed):
    """Tell a BACK of a "move" that moved something, newer the TREE behind it."""
    _, way, other = deed
    back = ("move", other, way)
    nodes, miss = way_through(tree, other)
    if miss is not None:
        return (back,)
    lost = nodes[-1]
    if not lives(newer, lost):
        return None
    between, _ = done(newer, back)
    return (back, link_again(between, lost, other))


def link_again(tree, sheet, way):
    """Tell a "link" by which a sheet has the NAME at the end of a WAY again."""
    return ("link", ways_to(tree, sheet)[0], way)
