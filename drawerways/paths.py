"""WAYS through TREES: where they lead, how they miss, which lead to a NODE."""

from drawerways.trees import entries_of, kind_of, node_under


def way_through(tree, way, *, top=0):
    """Tell the NODES that a WAY comes to from top on, and None or how it MISSES."""
    rows = {node: (kind, entries) for node, kind, entries in tree[0]}
    nodes = [top]
    for place, name in enumerate(way):
        kind, entries = rows[nodes[-1]]
        if kind == "sheet":
            return tuple(nodes), ("sheet", place)
        node = node_under(entries, name)
        if node is None:
            return tuple(nodes), ("none", place)
        nodes.append(node)
    return tuple(nodes), None


def ways_to(tree, node):
    """Tell all WAYS that LEAD to a NODE, rising; refuse any thing that is none that lives."""
    kind = kind_of(tree, node)
    stands = stands_of(tree)
    if kind == "drawer":
        return (way_of(stands, node),)
    ways = [way_of(stands, drawer) + (name,) for drawer, name in stands[node]]
    return tuple(sorted(ways))


def above(tree, node):
    """Tell the drawers that a drawer stands in, the nearest first; refuse any thing that is none."""
    entries_of(tree, node)
    stands = stands_of(tree)
    drawers = []
    at = node
    while at != 0:
        at = stands[at][0][0]
        drawers.append(at)
    return tuple(drawers)


def stands_of(tree):
    """Tell of each NODE but the TOP where it stands: pairs (drawer, NAME)."""
    stands = {}
    for drawer, _, entries in tree[0]:
        for name, node in entries:
            stands.setdefault(node, []).append((drawer, name))
    return stands


def way_of(stands, drawer):
    """Tell the one WAY of a drawer, from where the NODES stand."""
    names = []
    at = drawer
    while at != 0:
        at, name = stands[at][0]
        names.append(name)
    return tuple(reversed(names))
