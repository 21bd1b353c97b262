"""EVENTS, told of any thing by kind alone."""

from drawerways.kinds import is_name, is_number, is_tuple_of, rises

# What stands in an EVENT behind its hand and its word.
FORMS = {
    "rests": (),
    "waits": ("what", "number"),
    "again": ("number", "why"),
    "told": ("number", "told"),
    "key": (),
    "begin": ("number", "number"),
    "walk": ("number", "perhaps"),
    "locks": ("number",),
    "finds": ("number", "perhaps"),
    "empty": ("number",),
    "journal": ("journal",),
    "odd": ("number",),
    "out": ("number", "name"),
    "in": ("number", "name"),
}

# What stands behind the word in what a DEED TELLS.
TOLD_FORMS = {
    "found": ("kind", "number"),
    "names": ("names",),
    "none": ("number",),
    "sheet": ("number",),
    "there": (),
    "made": ("number",),
    "full": (),
    "dropped": ("number",),
    "kind": (),
    "linked": ("number",),
    "same": (),
    "inside": (),
    "moved": ("number",),
    "swapped": ("number", "number"),
}

JOURNAL_FORMS = ("moving", "number", "name", "number", "name", "number", "perhaps")

# Forms of just some texts.
TEXTS = {
    "why": ("turn", "dead"),
    "kind": ("drawer", "sheet"),
    "moving": ("move", "swap"),
}


def is_event(thing):
    """Tell whether a thing is an EVENT by kind."""
    return isinstance(thing, tuple) and thing != () and first_amiss(thing) is None


def first_amiss(things):
    """Tell the place of the first of things that can't stand in an EVENT by those ahead of it.

    Where none is amiss but some lack, tell how many there are; None where they are those of an EVENT.
    """
    if not is_number(things[0]):
        return 0
    if len(things) == 1:
        return 1
    forms = FORMS.get(things[1]) if isinstance(things[1], str) else None
    if forms is None:
        return 1
    for place, thing in enumerate(things[2:]):
        if place == len(forms) or not is_of_form(forms[place], thing):
            return place + 2
    return None if len(things) == 2 + len(forms) else len(things)


def is_of_form(form, thing):
    """Tell whether a thing may stand where an EVENT, or a tuple in one, has this form."""
    if form == "number":
        return is_number(thing)
    if form == "perhaps":
        return thing is None or is_number(thing)
    if form == "name":
        return is_name(thing)
    if form == "what":
        return is_number(thing) or thing in ("key", "turn")
    if form == "names":
        return isinstance(thing, tuple) and all([is_name(name) for name in thing]) and rises(thing)
    if form == "told":
        return is_told(thing)
    if form == "journal":
        return is_made_of(JOURNAL_FORMS, thing)
    return thing in TEXTS[form]


def is_made_of(forms, thing):
    """Tell whether a thing is a tuple of just these forms."""
    return is_tuple_of(thing, len(forms)) and all([is_of_form(form, part) for form, part in zip(forms, thing)])


def is_told(thing):
    """Tell whether a thing is a tuple that some DEED TELLS, by kind."""
    if not isinstance(thing, tuple) or thing == () or not isinstance(thing[0], str):
        return False
    forms = TOLD_FORMS.get(thing[0])
    if forms is None:
        return False
    rest = thing[1:]
    if thing[0] in ("none", "sheet") and len(rest) == 2:
        # Of a DEED of two WAYS the number of the WAY stands behind.
        return is_number(rest[0]) and is_number(rest[1]) and rest[1] <= 1
    return is_made_of(forms, rest)
