"""The WRITES by which a DEED comes onto a DISK."""

from drawerways.deeds import done, place_of


def writes_of(tree, deed):
    """Tell the WRITES of a DEED on a TREE."""
    _, told = done(tree, deed)
    word = told[0]
    if word in ("moved", "swapped"):
        return writes_of_two(tree, deed)
    if word == "made":
        return (entry_of(tree, "make", deed[1], deed[2]),)
    if word == "dropped":
        return (entry_of(tree, "entry", deed[1], None),)
    if word == "linked":
        return (entry_of(tree, "entry", deed[2], told[1]),)
    return ()


def entry_of(tree, word, way, thing):
    """Tell the WRITE with this word for the DRAWER and the last NAME of a WAY."""
    drawer, _, _ = place_of(tree, way)
    return word, drawer, way[-1], thing


def writes_of_two(tree, deed):
    """Tell the WRITES of a "move" or "swap" that nothing refuses."""
    word, way, other = deed
    _, s, _ = place_of(tree, way)
    _, t, _ = place_of(tree, other)
    left = t if word == "swap" else None
    note = (entry_of(tree, "entry", way, left), entry_of(tree, "entry", other, s))
    return (("journal", note),) + note + (("journal", None),)
