"""Rows of a TREE with one ENTRY changed, or without a NODE that is lost."""

from drawerways.trees import times_named


def entries_with(entries, name, node):
    """Tell ENTRIES with this NAME for a NODE, or without it where node is None."""
    pairs = [pair for pair in entries if pair[0] != name]
    if node is not None:
        pairs.append((name, node))
    return tuple(sorted(pairs))


def rows_with(rows, drawer, name, node):
    """Tell the rows with this drawer having the NAME for a NODE, or not at all where node is None."""
    newer = []
    for at, kind, entries in rows:
        if at == drawer:
            newer.append((at, kind, entries_with(entries, name, node)))
        else:
            newer.append((at, kind, entries))
    return tuple(newer)


def rows_unless_lost(rows, node):
    """Tell the rows without this NODE's where it stands in no ENTRIES any more."""
    if node in times_named(rows):
        return rows
    return tuple([row for row in rows if row[0] != node])
