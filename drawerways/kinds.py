"""NUMBERS, NAMES and WAYS, told of any thing."""


def is_number(thing):
    """Tell whether a thing is a NUMBER: an int from 0 on that is no truth."""
    return isinstance(thing, int) and not isinstance(thing, bool) and thing >= 0


def is_name(thing):
    """Tell whether a thing is a NAME: a text of one to eight small letters."""
    if not isinstance(thing, str) or not 1 <= len(thing) <= 8:
        return False
    return all(["a" <= sign <= "z" for sign in thing])


def is_way(thing):
    """Tell whether a thing is a WAY: a tuple, perhaps (), of NAMES."""
    return isinstance(thing, tuple) and all([is_name(name) for name in thing])


def is_tuple_of(thing, many):
    """Tell whether a thing is a tuple of so many things."""
    return isinstance(thing, tuple) and len(thing) == many


def is_pair_of_numbers(thing):
    """Tell whether a thing is a pair of NUMBERS, as TASKS are."""
    return is_tuple_of(thing, 2) and is_number(thing[0]) and is_number(thing[1])


def rises(things):
    """Tell whether each of the things is greater than the one ahead of it."""
    return all([one < other for one, other in zip(things, things[1:])])
