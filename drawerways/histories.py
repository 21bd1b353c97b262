"""WAYS walked in a HISTORY of TREES, each NAME read at a MOMENT of its own."""

from drawerways.deeds import done
from drawerways.paths import stands_of
from drawerways.trees import entries_of, kind_of, lives, node_under


def walk_in(history, way, *, moments):
    """Tell what a WALK tells, and the MOMENT at which it ENDS."""
    node, kind, moment = 0, "drawer", moments[0]
    for j, (name, at) in enumerate(zip(way, moments)):
        if kind == "sheet":
            return ("sheet", j), moment
        moment = at
        node = read_at(history[at], node, name)
        if node is None:
            return ("none", j), moment
        kind = kind_of(history[at], node)
    return ("found", kind, node), moment


def read_at(tree, node, name):
    """Tell the NODE that a NODE has under a NAME, None where it has none or isn't there."""
    if not lives(tree, node):
        return None
    return node_under(entries_of(tree, node), name)


def is_still(history, *, first=0, last=None):
    """Tell whether a HISTORY is STILL from one MOMENT to another one."""
    until = len(history) - 1 if last is None else last
    return all([stays_still(history[at], history[at + 1]) for at in range(first, until)])


def stays_still(tree, newer):
    """Tell whether each drawer of a TREE stands where it stood in the newer one, or is gone and had no ENTRIES."""
    stands = stands_of(tree)
    stands_newer = stands_of(newer)
    for node, kind, entries in tree[0]:
        if kind == "sheet":
            continue
        if lives(newer, node):
            # The TOP stands nowhere in both.
            if stands.get(node) != stands_newer.get(node):
                return False
        elif entries != ():
            return False
    return True


def had_by(history, way, *, moments):
    """Tell the MOMENTS that HAD what a WALK tells, rising."""
    told, end = walk_in(history, way, moments=moments)
    return tuple([at for at in range(moments[0], end + 1) if look_told(history[at], way) == told])


def look_told(tree, way):
    """Tell what "look" of a WAY TELLS on a TREE."""
    return done(tree, ("look", way))[1]
