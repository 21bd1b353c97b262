"""TREES, DEEDS and what these TELL, with other NAMES and other NODES."""


def renamed(tree, *, names=(), nodes=()):
    """Tell a TREE with each elder NAME and NODE as its newer one."""
    names_by = dict(names)
    nodes_by = dict(nodes)
    rows, made = tree
    newer = []
    for node, kind, entries in rows:
        pairs = [(names_by.get(name, name), nodes_by.get(inner, inner)) for name, inner in entries]
        newer.append((nodes_by.get(node, node), kind, tuple(sorted(pairs))))
    return tuple(sorted(newer)), made


def renamed_deed(deed, *, names=()):
    """Tell a DEED with each elder NAME as its newer one."""
    names_by = dict(names)
    parts = [deed[0]]
    for part in deed[1:]:
        # A kind is a text too, and may look like a NAME.
        if isinstance(part, tuple):
            parts.append(tuple([names_by.get(name, name) for name in part]))
        else:
            parts.append(part)
    return tuple(parts)


def renamed_told(told, *, names=(), nodes=()):
    """Tell what a DEED TELLS with each elder NAME and NODE as its newer one."""
    names_by = dict(names)
    nodes_by = dict(nodes)
    word = told[0]
    if word == "names":
        return ("names", tuple(sorted([names_by.get(name, name) for name in told[1]])))
    if word == "found":
        return ("found", told[1], nodes_by.get(told[2], told[2]))
    if word in ("dropped", "linked", "moved", "swapped"):
        return (word,) + tuple([nodes_by.get(node, node) for node in told[1:]])
    return told
