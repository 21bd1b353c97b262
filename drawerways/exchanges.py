"""EXCHANGES: TASKS side by side in a LINE that turn about and leave all as it was."""

from drawerways.deeds import done_all
from drawerways.errors import NoPaper
from drawerways.kinds import is_number
from drawerways.tasks import deed_of, in_order


def may_exchange(tree, one, other):
    """Tell whether two DEEDS, one ahead of the other, MAY BE EXCHANGED on a TREE."""
    end, answers = done_all(tree, (one, other))
    end_turned, answers_turned = done_all(tree, (other, one))
    return end == end_turned and answers == (answers_turned[1], answers_turned[0])


def lets_exchanges(tree, hands, line, thing):
    """Tell the LINE to which EXCHANGES of a LINE come; refuse any other thing."""
    if not isinstance(thing, tuple):
        raise NoPaper("shape", -1)
    for i, place in enumerate(thing):
        if not is_number(place) or place >= len(line) - 1:
            raise NoPaper("place", i)
        one, other = line[place], line[place + 1]
        if one[0] == other[0]:
            raise NoPaper("hand", i)
        _, there = in_order(tree, hands, line[:place])
        if not may_exchange(there, deed_of(hands, one), deed_of(hands, other)):
            raise NoPaper("other", i)
        line = line[:place] + (other, one) + line[place + 2:]
    return line
