"""DEEDS: which things are some, and what comes of doing them on a TREE."""

from drawerways.edits import rows_unless_lost, rows_with
from drawerways.kinds import is_way
from drawerways.paths import above, way_through
from drawerways.trees import entries_of, kind_of

# What stands behind each word; "named" is a WAY that has a NAME at least.
FORMS = {
    "look": ("way",),
    "list": ("way",),
    "make": ("named", "kind"),
    "drop": ("named",),
    "link": ("named", "named"),
    "move": ("named", "named"),
    "swap": ("named", "named"),
}


def form_of(word):
    """Tell what stands behind a text in DEEDS that begin with it, None where none do."""
    return FORMS.get(word)


def fits(form, thing):
    """Tell whether a thing may stand where a DEED has this form."""
    if form == "kind":
        return thing in ("drawer", "sheet")
    return is_way(thing) and (form == "way" or thing != ())


def is_deed(thing):
    """Tell whether a thing is a DEED."""
    if not isinstance(thing, tuple) or thing == () or not isinstance(thing[0], str):
        return False
    forms = form_of(thing[0])
    if forms is None or len(thing) != 1 + len(forms):
        return False
    return all([fits(form, part) for form, part in zip(forms, thing[1:])])


def done_look(tree, deed):
    """Do a "look"."""
    nodes, miss = way_through(tree, deed[1])
    if miss is not None:
        return tree, miss
    return tree, ("found", kind_of(tree, nodes[-1]), nodes[-1])


def done_list(tree, deed):
    """Do a "list"."""
    way = deed[1]
    nodes, miss = way_through(tree, way)
    if miss is not None:
        return tree, miss
    if kind_of(tree, nodes[-1]) == "sheet":
        return tree, ("sheet", len(way))
    return tree, ("names", tuple([name for name, _ in entries_of(tree, nodes[-1])]))


def place_of(tree, way):
    """Tell (DRAWER, NODE of the last NAME, None), or (None, None, how the DRAWER isn't led to).

    The NODE is None where the DRAWER hasn't the NAME.
    """
    nodes, miss = way_through(tree, way)
    if miss is None:
        return nodes[-2], nodes[-1], None
    if miss == ("none", len(way) - 1):
        return nodes[-1], None, None
    return None, None, miss


def is_full(tree, node):
    """Tell whether a NODE is a drawer that has ENTRIES."""
    return kind_of(tree, node) == "drawer" and entries_of(tree, node) != ()


def done_make(tree, deed):
    """Do a "make"."""
    _, way, kind = deed
    drawer, node, miss = place_of(tree, way)
    if miss is not None:
        return tree, miss
    if node is not None:
        return tree, ("there",)
    rows, made = tree
    rows = rows_with(rows + ((made, kind, ()),), drawer, way[-1], made)
    return (rows, made + 1), ("made", made)


def done_drop(tree, deed):
    """Do a "drop"."""
    way = deed[1]
    drawer, node, miss = place_of(tree, way)
    if miss is not None:
        return tree, miss
    if node is None:
        return tree, ("none", len(way) - 1)
    if is_full(tree, node):
        return tree, ("full",)
    rows, made = tree
    rows = rows_unless_lost(rows_with(rows, drawer, way[-1], None), node)
    return (rows, made), ("dropped", node)


def is_within(tree, drawer, node):
    """Tell whether a drawer is this NODE, or stands in it, near or far."""
    return drawer == node or node in above(tree, drawer)


def why_no_link(tree, places):
    """Tell what refuses a "link" at places (P, S, Q, T), None where nothing does."""
    _, s, _, t = places
    if kind_of(tree, s) == "drawer":
        return ("kind",)
    if t is not None:
        return ("there",)
    return None


def why_no_move(tree, places):
    """Tell what refuses a "move" at places (P, S, Q, T), None where nothing does."""
    _, s, q, t = places
    if s == t:
        return ("same",)
    if is_within(tree, q, s):
        return ("inside",)
    if t is None:
        return None
    if kind_of(tree, s) != kind_of(tree, t):
        return ("kind",)
    if is_full(tree, t):
        return ("full",)
    return None


def why_no_swap(tree, places):
    """Tell what refuses a "swap" at places (P, S, Q, T), None where nothing does."""
    p, s, q, t = places
    if s == t:
        return ("same",)
    if is_within(tree, q, s) or is_within(tree, p, t):
        return ("inside",)
    return None


def done_two(tree, deed):
    """Do a "link", "move" or "swap"."""
    _, way, other = deed
    p, s, miss = place_of(tree, way)
    if miss is not None:
        return tree, miss + (0,)
    q, t, miss = place_of(tree, other)
    if miss is not None:
        return tree, miss + (1,)
    places = (p, s, q, t)
    told = why_no_two(tree, deed, places)
    if told is not None:
        return tree, told
    return turned(tree, deed, places)


def why_no_two(tree, deed, places):
    """Tell what refuses a "link", "move" or "swap" at places (P, S, Q, T), None where nothing does."""
    word, way, other = deed
    _, s, _, t = places
    if s is None:
        return ("none", len(way) - 1, 0)
    if t is None and word == "swap":
        return ("none", len(other) - 1, 1)
    why_not = REFUSALS[word]
    return why_not(tree, places)


def turned(tree, deed, places):
    """Do what a "link", "move" or "swap" that nothing refuses does at places (P, S, Q, T)."""
    word, way, other = deed
    p, s, q, t = places
    rows, made = tree
    if word == "link":
        return (rows_with(rows, q, other[-1], s), made), ("linked", s)
    if word == "swap":
        rows = rows_with(rows_with(rows, p, way[-1], t), q, other[-1], s)
        return (rows, made), ("swapped", s, t)
    rows = rows_with(rows_with(rows, p, way[-1], None), q, other[-1], s)
    if t is not None:
        rows = rows_unless_lost(rows, t)
    return (rows, made), ("moved", s)


REFUSALS = {"link": why_no_link, "move": why_no_move, "swap": why_no_swap}

ACTIONS = {
    "look": done_look,
    "list": done_list,
    "make": done_make,
    "drop": done_drop,
    "link": done_two,
    "move": done_two,
    "swap": done_two,
}


def done(tree, deed):
    """Tell the TREE behind a DEED that is DONE, and what it TELLS."""
    action = ACTIONS[deed[0]]
    return action(tree, deed)


def done_all(tree, deeds=()):
    """Tell the TREE behind DEEDS done one behind another, and what each TELLS."""
    answers = []
    for deed in deeds:
        tree, told = done(tree, deed)
        answers.append(told)
    return tree, tuple(answers)
