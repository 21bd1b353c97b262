"""DISKS: what is written of TREES, a move's note ahead of the move, and how they are MENDED."""

from drawerways.edits import rows_with
from drawerways.trees import reached


def disk_of(tree):
    """Tell the DISK of a TREE: its rows and made, and no NOTE."""
    rows, made = tree
    return rows, made, None


def written_entry(disk, write):
    """Do an "entry"."""
    rows, made, journal = disk
    _, drawer, name, node = write
    return rows_with(rows, drawer, name, node), made, journal


def written_make(disk, write):
    """Do a "make"."""
    rows, made, journal = disk
    _, drawer, name, kind = write
    return rows_with(rows + ((made, kind, ()),), drawer, name, made), made + 1, journal


def written_journal(disk, write):
    """Do a "journal"."""
    rows, made, _ = disk
    return rows, made, write[1]


ACTIONS = {"entry": written_entry, "make": written_make, "journal": written_journal}


def written(disk, writes):
    """Tell the DISK behind WRITES, one behind another."""
    for write in writes:
        action = ACTIONS[write[0]]
        disk = action(disk, write)
    return disk


def mended(disk):
    """Tell the TREE of a DISK that is MENDED."""
    rows, made, journal = disk
    if journal is not None:
        rows, made, _ = written(disk, journal)
    inside = {node: entries for node, _, entries in rows}
    met = reached(inside)
    return tuple([row for row in rows if row[0] in met]), made
