"""Things that the tests hand in: right ones, odd ones, and right ones spoiled."""

import copy
from itertools import product

HUGE = 10 ** 199


def deep(many, inmost=(), of=tuple):
    """A thing that stands so many tuples (or lists) deep."""
    thing = inmost
    for _ in range(many):
        thing = of([thing])
    return thing


# None of these is a NUMBER, a NAME, a WAY, a kind, ENTRIES, a DEED or a TREE, nor a part of one.
NEVER = [
    True, False, None, -1, -HUGE,
    "", "A", "a b", "a1", "a-b", "aB", "a_", "a\n", " a", "abcdefghi", "/", "a/b", "0", "1",
    [], [0], [1], ["a"], ["a", "b"], [("a", 1)], [()],
    (True,), (None,), (-1,), ("A",), ("",), ("a", "B"), ("a", ["b"]), ("a", None), ((),), ((), ()),
    (0, True), (True, 0), (-1, 0), [0, 0],
    deep(40), deep(40, 1), deep(40, "a", list), deep(39, [True]),
]

TEXTS_NEAR_NAMES = [
    "", " ", "A", "Ab", "aB", "abcdefgH", "abcdefghi", "a" * 4000, "a b", " a", "a ", "a1", "1", "a-b", "a_b", "`", "{",
    "a`", "a{", "a\n", "/", "a/b", "=", "a=", "a=1", ",", ":",
]

RIGHT_NAMES = ["a", "z", "m", "ab", "drawer", "sheet", "look", "abcdefgh", "zzzzzzzz"]


def with_part(thing, place, part):
    return thing[:place] + (part,) + thing[place + 1:]


def parts_changed(thing, changes):
    """All things that come of putting a change in the place of just one part, or of the whole."""
    for change in changes(thing):
        yield change
    if isinstance(thing, tuple):
        for place, part in enumerate(thing):
            for newer in parts_changed(part, changes):
                yield with_part(thing, place, newer)


def never_right(thing):
    """Things that may stand nowhere, but for thing itself."""
    for odd in NEVER:
        yield copy.deepcopy(odd)
    if isinstance(thing, tuple):
        yield list(thing)
    if isinstance(thing, str):
        yield thing.upper()
        yield thing + " "
        yield [thing]
    if isinstance(thing, int):
        yield [thing]
        yield str(thing)
        yield -1 - thing


def perhaps_right(thing):
    """Things near it that may be right or not."""
    yield from (0, 1, 2, 3, 5, 7, HUGE, "a", "b", "drawer", "sheet", "look", "move", (), ("a",), (0, 0), (("a", 1),))
    if isinstance(thing, tuple):
        for place in range(len(thing)):
            yield thing[:place] + thing[place + 1:]
            yield thing[:place] + (thing[place],) + thing[place:]
        yield thing[::-1]
        yield tuple(reversed(sorted(thing, key=repr)))
    if isinstance(thing, int):
        yield thing + 1
        yield thing - 1


def spoiled(thing):
    """All things that come of putting what may stand nowhere in the place of one part."""
    return parts_changed(thing, never_right)


def changed(thing):
    """All things that come of one small change; some of these are right."""
    return parts_changed(thing, perhaps_right)


def just_tuples(thing):
    """Whether a thing that was told is made of just tuples, texts, ints and None, and no other kinds."""
    if type(thing) is tuple:
        return all(just_tuples(part) for part in thing)
    return thing is None or type(thing) in (str, int)


EMPTY_TREE = (((0, "drawer", ()),), 1)

# The document's own: 4 0:a=1,b=3 1: 3
SMALL = (((0, "drawer", (("a", 1), ("b", 3))), (1, "drawer", ()), (3, "sheet", ())), 4)

# Drawers within drawers, a sheet under four NAMES, one under one, and NODES that live no more.
DEEP = (
    (
        (0, "drawer", (("a", 1), ("b", 2), ("c", 5))),
        (1, "drawer", (("a", 3), ("b", 5))),
        (2, "drawer", ()),
        (3, "drawer", (("a", 4), ("b", 6), ("c", 5))),
        (4, "drawer", ()),
        (5, "sheet", ()),
        (6, "sheet", ()),
    ),
    9,
)

# Two full drawers side by side, a sheet in both, a void drawer in each.
BESIDE = (
    (
        (0, "drawer", (("a", 7), ("b", 2))),
        (2, "drawer", (("a", 3), ("b", 4))),
        (3, "sheet", ()),
        (4, "drawer", ()),
        (7, "drawer", (("a", 8), ("c", 3))),
        (8, "drawer", ()),
    ),
    10,
)

# One sheet alone, under three NAMES in one drawer.
SHEETS = (((0, "drawer", (("a", 1), ("b", 1), ("c", 1))), (1, "sheet", ())), 2)

# Drawers one within another; numbers that don't rise on the way down.
CHAIN = (
    (
        (0, "drawer", (("a", 4), ("b", 5))),
        (1, "drawer", (("a", 6),)),
        (2, "drawer", (("a", 1),)),
        (4, "drawer", (("a", 2), ("b", 5))),
        (5, "sheet", ()),
        (6, "drawer", ()),
    ),
    7,
)

# No WAY of a drawer in it is the same read from its end.
WINDING = (
    (
        (0, "drawer", (("b", 3),)),
        (1, "drawer", (("b", 4), ("c", 5))),
        (2, "sheet", ()),
        (3, "drawer", (("a", 1), ("c", 2))),
        (4, "drawer", (("a", 2), ("c", 6))),
        (5, "sheet", ()),
        (6, "drawer", ()),
    ),
    7,
)

TREES = [EMPTY_TREE, SMALL, DEEP, BESIDE, SHEETS, CHAIN, WINDING]


def ways(names, longest):
    """All WAYS of these NAMES, up to so many of them."""
    return [way for many in range(longest + 1) for way in product(names, repeat=many)]


def deeds(names, longest):
    """All DEEDS with such WAYS."""
    every = ways(names, longest)
    found = [(word, way) for word in ("look", "list") for way in every]
    found += [("make", way, kind) for way in every if way for kind in ("drawer", "sheet")]
    found += [("drop", way) for way in every if way]
    found += [
        (word, way, other)
        for word in ("link", "move", "swap")
        for way in every if way
        for other in every if other
    ]
    return found
