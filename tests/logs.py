"""Rows of DEEDS, and what CUTS of them leave, by the model."""

from model import modelled
from things import BESIDE, DEEP, EMPTY_TREE, SHEETS, SMALL

# Each with what is said of it in its place: a TREE, and DEEDS done one behind another.
ROWS = [
    (SMALL, ()),
    (SMALL, (("look", ("a",)),)),
    (SMALL, (("look", ("a",)), ("list", ()), ("drop", ("x",)), ("make", ("a",), "sheet"), ("move", ("b",), ("b",)))),
    (EMPTY_TREE, (("make", ("a",), "drawer"), ("make", ("a", "b"), "sheet"), ("drop", ("a",)), ("drop", ("a", "b")))),
    (SMALL, (("look", ()), ("move", ("b",), ("a", "c")), ("list", ("a",)))),
    (SMALL, (("move", ("b",), ("a", "c")), ("move", ("a",), ("d",)))),
    (SMALL, (("move", ("b",), ("c",)), ("move", ("c",), ("b",)))),
    (BESIDE, (("swap", ("a", "a"), ("b",)), ("look", ("b",)), ("swap", ("a", "a"), ("b",)), ("list", ()))),
    (DEEP, (("drop", ("x",)), ("move", ("c",), ("b", "a")), ("look", ("c",)), ("drop", ("c",)), ("list", ("b",)),
            ("link", ("b", "a"), ("c",)), ("swap", ("b",), ("a", "a", "a")), ("look", ()))),
    (SHEETS, (("drop", ("a",)), ("drop", ("b",)), ("drop", ("c",)), ("make", ("c",), "drawer"))),
]

WRITES = {"made": 1, "dropped": 1, "linked": 1, "moved": 4, "swapped": 4}


def trees_behind(tree, deeds):
    """The TREES behind the first none, one, two .. DEEDS."""
    trees = [tree]
    for deed in deeds:
        trees.append(modelled(trees[-1], deed)[0])
    return trees


def owners(tree, deeds):
    """The number of the DEED of each WRITE."""
    found = []
    for number, deed in enumerate(deeds):
        tree, told = modelled(tree, deed)
        found += [number] * WRITES.get(told[0], 0)
    return found


def cuts_due(tree, deeds):
    """(many, TREE) of each CUT: a DEED of which a WRITE is on the disk is done, once mended."""
    trees, of_writes = trees_behind(tree, deeds), owners(tree, deeds)
    due = []
    for n in range(len(of_writes) + 1):
        there = of_writes[:n]
        if n == len(of_writes):
            many = len(deeds)
        elif of_writes[n] in there:
            many = of_writes[n] + 1
        else:
            many = of_writes[n]
        due.append((many, trees[there[-1] + 1] if there else tree))
    return due


def why_no_cuts(tree, deeds, thing):
    """(word, at) that is due for a thing, None where it is a CUT PAPER."""
    if type(thing) is not tuple or any(type(many) is not int or many < 0 for many in thing):
        return "shape", -1
    trees, of_writes = trees_behind(tree, deeds), owners(tree, deeds)
    due = cuts_due(tree, deeds)
    if len(thing) != len(due):
        return "many", -1
    for n, many in enumerate(thing):
        among = set(range(many)) if many < 99 else set(range(99))
        if n and many < thing[n - 1]:
            return "falls", n
        if n < len(of_writes):
            fewest, behind = set(range(of_writes[n])), of_writes[n] + 1
        else:
            fewest, behind = set(range(of_writes[-1] + 1)) if of_writes else set(), len(deeds)
        if not fewest <= among:
            return "few", n
        if any(number >= behind for number in among):
            return "more", n
        if trees[many] != due[n][1]:
            return "tree", n
    return None
