"""Scenes: TREES with HANDS and SPANS; and what comes of them, found by trying every LINE with the model."""

from itertools import permutations

from model import Model, number
from things import BESIDE, CHAIN, DEEP, EMPTY_TREE, SHEETS, SMALL

# Five TASKS of three hands, some AHEAD of others; a hand without any between.
MIXED = (
    SMALL,
    (
        (("make", ("c",), "drawer"), ("move", ("b",), ("c", "b"))),
        (("look", ("c",)),),
        (),
        (("list", ()), ("drop", ("c",))),
    ),
    (((0, 0), 0, 2), ((0, 1), 4, 9), ((1, 0), 1, 5), ((3, 0), 0, 6), ((3, 1), 8, 9)),
)

# Three hands that all make at the same time: each order makes other NODES.
MAKERS = (
    EMPTY_TREE,
    ((("make", ("a",), "drawer"),), (("make", ("a",), "sheet"),), (("make", ("b",), "sheet"),)),
    (((0, 0), 3, 8), ((1, 0), 3, 8), ((2, 0), 3, 8)),
)

# Moves into one another: one of both is refused, whichever is first.
CROSSED = (
    BESIDE,
    (
        (("move", ("a",), ("b", "z")), ("look", ("b", "z", "c"))),
        (("move", ("b",), ("a", "z")), ("swap", ("a", "a"), ("a", "c"))),
    ),
    (((0, 0), 0, 5), ((0, 1), 6, 20), ((1, 0), 1, 7), ((1, 1), 8, 9)),
)

# Six TASKS, two of each hand, all hands at once.
SIX = (
    DEEP,
    (
        (("drop", ("a", "a", "a")), ("drop", ("a", "a", "b"))),
        (("make", ("a", "a", "a"), "sheet"), ("link", ("c",), ("b", "x"))),
        (("move", ("c",), ("b", "x")), ("list", ("b",))),
    ),
    (((0, 0), 0, 10), ((0, 1), 11, 30), ((1, 0), 0, 15), ((1, 1), 16, 30), ((2, 0), 5, 12), ((2, 1), 13, 30)),
)

# Each TASK behind the other: just one LINE FITS.
ROW = (
    SHEETS,
    ((("drop", ("a",)), ("drop", ("c",))), (("drop", ("b",)), ("look", ("c",)))),
    (((0, 0), 0, 0), ((0, 1), 4, 5), ((1, 0), 1, 3), ((1, 1), 6, 6)),
)

# Looks and lists alone: all LINES come to the same.
LOOKERS = (
    CHAIN,
    ((("look", ("a",)), ("list", ("b",))), (("look", ("a", "a", "a")),), (("list", ()),)),
    (((0, 0), 0, 1), ((0, 1), 2, 3), ((1, 0), 0, 3), ((2, 0), 1, 2)),
)

# HANDS of which just some first TASKS have SPANS; the HANDS stand the other way about.
SOME = (
    SMALL,
    (
        (("list", ("a",)), ("drop", ("a",))),
        (("move", ("b",), ("a", "b")), ("drop", ("a", "b")), ("make", ("a", "b"), "drawer")),
    ),
    (((0, 0), 2, 9), ((1, 0), 0, 3), ((1, 1), 4, 4)),
)

ONE = (SMALL, ((("make", ("a", "a"), "sheet"),),), (((0, 0), 7, 7),))

VOID = (SMALL, ((("drop", ("b",)),), ()), ())

SCENES = [MIXED, MAKERS, CROSSED, SIX, ROW, LOOKERS, SOME, ONE, VOID]


def tasks(spans):
    return [span[0] for span in spans]


def fitting(spans):
    """All LINES that FIT SPANS."""
    at = {task: (begin, end) for task, begin, end in spans}
    for line in permutations(tasks(spans)):
        if all(at[one][0] <= at[other][1] for j, other in enumerate(line) for one in line[:j]):
            yield line


def comes(tree, hands, line):
    """What comes of a LINE, by the model: (results, end)."""
    model = Model(tree)
    results = {(hand, k): model.do(hands[hand][k]) for hand, k in line}
    return tuple((task, results[task]) for task in sorted(results)), model.tree()


def all_that_comes(tree, hands, spans):
    """Each pair of [24] of the LINES that FIT, with these LINES."""
    found = {}
    for line in fitting(spans):
        found.setdefault(comes(tree, hands, line), []).append(line)
    return found


def asked_of(tree, hands, spans):
    """RESULTS and ENDS: all that come of the SPANS, and many near these that none comes to."""
    found = all_that_comes(tree, hands, spans)
    asked = dict.fromkeys(found)
    told_by = {}
    for results, _ in found:
        for task, told in results:
            told_by.setdefault(task, {})[told] = True
    for results, end in found:
        for other in (EMPTY_TREE, tree, (end[0], end[1] + 1)) + tuple(end for _, end in list(found)[:3]):
            asked[results, other] = None
        for place, (task, _) in enumerate(results):
            for told in list(told_by[task]) + [("none", 3), ("there",)]:
                asked[results[:place] + ((task, told),) + results[place + 1:], end] = None
    return list(asked), found


def next_ones(spans, left):
    """The TASKS LEFT that none LEFT is AHEAD of."""
    at = {task: (begin, end) for task, begin, end in spans}
    return [task for task in left if all(at[other][1] >= at[task][0] for other in left)]


def behind(tree, hands, path):
    """The TREE behind a PATH, and what each TASK on it TOLD."""
    model = Model(tree)
    return [model.do(hands[hand][k]) for hand, k in path], model.tree()


def bar_of(scene, results, end, path=()):
    """The part of the BAR at a PATH, None where a LINE that goes on from it comes to what is asked."""
    tree, hands, spans = scene
    told, at = behind(tree, hands, path)
    if path and told[-1] != dict(results)[path[-1]]:
        return ("told",)
    left = [task for task in tasks(spans) if task not in path]
    if not left:
        return None if at == end else ("end",)
    parts = [(task, bar_of(scene, results, end, path + (task,))) for task in next_ones(spans, left)]
    return None if any(part is None for _, part in parts) else ("by", tuple(parts))


def pair(thing):
    return type(thing) is tuple and len(thing) == 2


def task(thing):
    return pair(thing) and number(thing[0]) and number(thing[1])


def why_no_bar(scene, results, end, thing, path=()):
    """(word, PATH) of the refusal that is due for a thing, None where it is a BAR."""
    tree, hands, spans = scene
    if type(thing) is not tuple or not thing or type(thing[0]) is not str:
        return "shape", path
    if thing[0] == "by":
        if len(thing) != 2 or type(thing[1]) is not tuple or not all(pair(row) for row in thing[1]):
            return "shape", path
    elif thing not in [("told",), ("end",)]:
        return "shape", path
    told, at = behind(tree, hands, path)
    left = [one for one in tasks(spans) if one not in path]
    if path and told[-1] != dict(results)[path[-1]]:
        right = "told"
    elif left:
        right = "by"
    else:
        right = "end" if at != end else "none is right"
    if thing[0] != right:
        return "word", path
    if right != "by":
        return None
    if not all(task(one) for one, _ in thing[1]) or [one for one, _ in thing[1]] != next_ones(spans, left):
        return "rows", path
    for one, part in thing[1]:
        why = why_no_bar(scene, results, end, part, path + (one,))
        if why:
            return why
    return None
