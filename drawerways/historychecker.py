"""The checker of MOMENTS that HAD what a WALK tells: it seeks nothing, and what it lets by is so."""

from drawerways.errors import NoPaper
from drawerways.histories import look_told, walk_in
from drawerways.kinds import is_number


def lets_moment(history, way, thing, *, moments):
    """Tell True of a MOMENT that HAD what a WALK tells; refuse any other thing."""
    if not is_number(thing):
        raise NoPaper("shape", -1)
    told, end = walk_in(history, way, moments=moments)
    if not moments[0] <= thing <= end:
        raise NoPaper("span", -1)
    had = look_told(history[thing], way)
    if had != told:
        raise NoPaper("look", had)
    return True
