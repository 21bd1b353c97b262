"""What a "move" or "swap" does to the NODES by its JOURNAL, in two parts, each of which may be done again."""

from drawerways.edits import rows_unless_lost, rows_with


def out_done(nodes, journal):
    """Tell the NODES once P hasn't the name any more, or, of a "swap", has it with T."""
    word, p, name, _, _, _, t = journal
    left = t if word == "swap" else None
    return rows_with(nodes, p, name, left)


def in_done(nodes, journal):
    """Tell the NODES once Q has other with S, without a T of a "move" that has no NAME any more."""
    word, _, _, q, other, s, t = journal
    newer = rows_with(nodes, q, other, s)
    if word == "move" and t is not None:
        return rows_unless_lost(newer, t)
    return newer
