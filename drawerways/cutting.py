"""CUTS of STATES: the TREE that is mended of what is on the disk."""

from drawerways.journals import in_done, out_done


def cut(state):
    """Tell the TREE that a CUT of a STATE leaves."""
    nodes, made, journal = state[1]
    if journal is not None:
        nodes = in_done(out_done(nodes, journal), journal)
    return nodes, made
