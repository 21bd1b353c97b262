"""The checker of CUT PAPERS: it seeks nothing, and what it lets by is so."""

from drawerways.cuts import numbered_writes, trees_mended
from drawerways.errors import NoPaper
from drawerways.kinds import is_number
from drawerways.tasks import trees_along


def lets_cuts(tree, deeds, thing):
    """Tell how many CUTS DEEDS have whose CUT PAPER this is; refuse any other thing."""
    if not isinstance(thing, tuple) or not all([is_number(many) for many in thing]):
        raise NoPaper("shape", -1)
    numbered = numbered_writes(tree, deeds)
    trees = trees_mended(tree, numbered)
    if len(thing) != len(trees):
        raise NoPaper("many", -1)
    line = tuple([(0, k) for k in range(len(deeds))])
    behind = trees_along(tree, (deeds,), line)
    for n, many in enumerate(thing):
        check_many(numbered, len(deeds), thing, n)
        if behind[many] != trees[n]:
            raise NoPaper("tree", n)
    return len(thing)


def check_many(numbered, whole, thing, n):
    """Refuse a NUMBER n that falls, or tells too few or too many of the whole number of DEEDS."""
    if n > 0 and thing[n] < thing[n - 1]:
        raise NoPaper("falls", n)
    fewest, most = bounds_at(numbered, whole, n)
    if thing[n] < fewest:
        raise NoPaper("few", n)
    if thing[n] > most:
        raise NoPaper("more", n)


def bounds_at(numbered, whole, n):
    """Tell how many DEEDS are BEGUN at CUT n at the least, and at the most."""
    if n < len(numbered):
        number = numbered[n][0]
        return number, number + 1
    if n == 0:
        return 0, whole
    return numbered[n - 1][0] + 1, whole
