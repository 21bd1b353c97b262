"""HISTORIES, WALKS in them, and the document's words on these once more."""

from itertools import combinations_with_replacement

from model import Model, modelled
from things import BESIDE, CHAIN, EMPTY_TREE, SMALL


def history_of(tree, *moments):
    """The HISTORY of a TREE that has so many MOMENTS more, some DEEDS done from each to the next one."""
    trees = [tree]
    for deeds in moments:
        for deed in deeds:
            tree, told = modelled(tree, deed)
            assert told[0] in ("made", "dropped", "linked", "moved", "swapped"), (deed, told)
        trees.append(tree)
    return tuple(trees)


ONE = (SMALL,)

ALIKE = (SMALL, SMALL, SMALL)

# A drawer with a sheet in it is carried into another one and back.
CARRIED = history_of(
    BESIDE, [("move", ("b",), ("a", "b"))], [("make", ("b",), "sheet")], [("drop", ("b",))],
    [("move", ("a", "b"), ("b",))],
)

# A drawer is emptied, dropped, and another one made under its NAME.
DROPPED = history_of(
    CHAIN, [("move", ("a", "a", "a", "a"), ("c",))], [("drop", ("a", "a", "a"))],
    [("make", ("a", "a", "a"), "drawer"), ("move", ("c",), ("a", "a", "a", "a"))],
)

# The same, but emptied and dropped from one MOMENT to the next.
DROPPED_AT_ONCE = history_of(
    CHAIN, [("move", ("a", "a", "a", "a"), ("c",)), ("drop", ("a", "a", "a"))], [("drop", ("c",))],
    [("make", ("a", "a", "a"), "sheet")],
)

# A drawer and a sheet turn about, twice; then what is in the drawer is another thing.
TURNED = history_of(
    SMALL, [("swap", ("a",), ("b",))], [("swap", ("a",), ("b",)), ("make", ("a", "a"), "sheet")],
    [("link", ("a", "a"), ("a", "b"))], [("drop", ("a", "a"))],
)

# Sheets come and go; the drawers stay.
SHEETS_ALONE = history_of(
    EMPTY_TREE, [("make", ("a",), "drawer"), ("make", ("b",), "sheet")], [("link", ("b",), ("a", "b"))],
    [("drop", ("b",)), ("move", ("a", "b"), ("a", "a"))], [("drop", ("a", "a"))],
)

# The drawers of a WAY are carried about, so that it leads nowhere in one, and elsewhere in another.
ROUND = history_of(
    CHAIN, [("move", ("b",), ("d",))],
    [("move", ("a", "a", "a"), ("b",))], [("swap", ("a",), ("b",))], [("move", ("a", "a"), ("b", "c"))],
)

HISTORIES = [ONE, ALIKE, CARRIED, DROPPED, DROPPED_AT_ONCE, TURNED, SHEETS_ALONE, ROUND]


def all_moments(history, many):
    """All MOMENTS of a WAY of so many NAMES."""
    return combinations_with_replacement(range(len(history)), many)


def walk(history, way, moments):
    """What a WALK tells, and when it ENDS."""
    node, kind = 0, "drawer"
    for j in range(len(way)):
        model = Model(history[moments[j]])
        if kind == "sheet":
            return ("sheet", j), moments[j - 1]
        if node not in model.kinds or way[j] not in model.inside[node]:
            return ("none", j), moments[j]
        node = model.inside[node][way[j]]
        kind = model.kinds[node]
    return ("found", kind, node), moments[-1]


def still(history, first, last):
    """Whether a HISTORY is STILL from first to last."""
    for at in range(first, last):
        one, other = Model(history[at]), Model(history[at + 1])
        for drawer in one.inside:
            if drawer in other.inside:
                if one.places(drawer) != other.places(drawer):
                    return False
            elif one.inside[drawer]:
                return False
    return True


def looks(history, way):
    """What "look" TELLS at each MOMENT."""
    return [modelled(tree, ("look", way))[1] for tree in history]


def had(history, way, moments):
    """The MOMENTS that HAD what a WALK tells."""
    told, end = walk(history, way, moments)
    return tuple(at for at, seen in enumerate(looks(history, way)) if moments[0] <= at <= end and seen == told)
