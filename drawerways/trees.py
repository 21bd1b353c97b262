"""TREES: the rows of all NODES that live, and how many were ever made."""

from drawerways.errors import NoStep
from drawerways.kinds import is_name, is_number, is_tuple_of, rises

EMPTY = (((0, "drawer", ()),), 1)


def is_tree(thing):
    """Tell whether a thing is a TREE."""
    if not is_tuple_of(thing, 2):
        return False
    rows, made = thing
    if not isinstance(rows, tuple) or not all([is_row(row) for row in rows]) or not is_number(made):
        return False
    nodes = [row[0] for row in rows]
    return rises(nodes) and all([node < made for node in nodes]) and is_whole(rows)


def is_row(thing):
    """Tell whether a thing is a row of a TREE, looked at alone."""
    if not is_tuple_of(thing, 3) or not is_number(thing[0]):
        return False
    _, kind, entries = thing
    if kind == "sheet":
        return entries == ()
    return kind == "drawer" and is_entries(entries)


def is_entries(thing):
    """Tell whether a thing is ENTRIES."""
    if not isinstance(thing, tuple) or not all([is_entry(pair) for pair in thing]):
        return False
    return rises([pair[0] for pair in thing])


def is_entry(thing):
    """Tell whether a thing is a pair of a NAME and a NODE."""
    return is_tuple_of(thing, 2) and is_name(thing[0]) and is_number(thing[1])


def is_whole(rows):
    """Tell whether each NODE of rows with rising NODES stands where a TREE has it."""
    inside = {node: entries for node, _, entries in rows}
    times = times_named(rows)
    if 0 not in inside or not all([node in inside for node in times]):
        return False
    if not all([stands_right(node, kind, times.get(node, 0)) for node, kind, _ in rows]):
        return False
    return len(reached(inside)) == len(inside)


def times_named(rows):
    """Tell how often each NODE that stands in ENTRIES stands there."""
    times = {}
    for _, _, entries in rows:
        for _, node in entries:
            times[node] = times.get(node, 0) + 1
    return times


def stands_right(node, kind, times):
    """Tell whether a NODE of this kind may stand in ENTRIES so many times."""
    if node == 0:
        return kind == "drawer" and times == 0
    # A sheet that stands nowhere isn't reached either, so that is not asked here.
    return kind == "sheet" or times == 1


def reached(inside):
    """Tell the NODES to which one comes down from the TOP, inside having the ENTRIES of each; True for each."""
    met = {0: True}
    queue = [0]
    while queue:
        at = queue.pop()
        for _, node in inside[at]:
            if node not in met:
                met[node] = True
                queue.append(node)
    return met


def lives(tree, node):
    """Tell whether a NODE lives in a TREE."""
    return node in [row[0] for row in tree[0]]


def row_of(tree, node):
    """Tell the row of a NODE; refuse any thing that is no NODE that lives."""
    if is_number(node):
        for row in tree[0]:
            if row[0] == node:
                return row
    raise NoStep("node")


def kind_of(tree, node):
    """Tell the kind of a NODE that lives."""
    return row_of(tree, node)[1]


def entries_of(tree, node):
    """Tell the ENTRIES of a drawer that lives."""
    _, kind, entries = row_of(tree, node)
    if kind == "sheet":
        raise NoStep("sheet")
    return entries


def node_under(entries, name):
    """Tell the NODE that ENTRIES have under a NAME, None where they haven't it."""
    for other, node in entries:
        if other == name:
            return node
    return None
