"""Looks of a desk: what a cabinet has, told as a text."""

from drawerways.deedtexts import shown_tree
from drawerways.runmoments import moments_of
from drawerways.spansof import results_of
from drawerways.states import is_quiet, tree_of


def parted(words):
    """Tell words parted by single blanks, - where there are none."""
    return " ".join(words) if words else "-"


def moments_in(cabinet):
    """Tell the MOMENTS of all TASKS that are THROUGH, in the ORDER."""
    return moments_of(cabinet.tree_first(), cabinet.hands_first(), cabinet.log_now())


def look_tree(cabinet):
    """Tell the TREE of the STATE."""
    return shown_tree(tree_of(cabinet.state_now()))


def look_cut(cabinet):
    """Tell the TREE that a CUT behind all EVENTS leaves."""
    return shown_tree(cabinet.cut_at(len(cabinet)))


def look_events(cabinet):
    """Tell how many EVENTS there are."""
    return str(len(cabinet))


def look_quiet(cabinet):
    """Tell whether all is QUIET."""
    return "yes" if is_quiet(cabinet.state_now()) else "no"


def look_order(cabinet):
    """Tell the ORDER."""
    return parted([f"{hand}.{k}" for (hand, k), _, _ in moments_in(cabinet)])


def look_moments(cabinet):
    """Tell the MOMENTS, in the ORDER."""
    return parted([f"{hand}.{k}:{n}.{side}" for (hand, k), n, side in moments_in(cabinet)])


def look_told(cabinet):
    """Tell the first word that each TASK told, in the ORDER."""
    results = results_of(cabinet.tree_first(), cabinet.hands_first(), cabinet.log_now())
    words = {task: told[0] for task, told in results}
    return parted([f"{hand}.{k}={words[(hand, k)]}" for (hand, k), _, _ in moments_in(cabinet)])


LOOKS = {
    "tree": look_tree, "cut": look_cut, "events": look_events, "quiet": look_quiet, "order": look_order,
    "moments": look_moments, "told": look_told,
}


def looked(cabinet, word):
    """Tell what the look of this word tells, None where there is no such look."""
    look = LOOKS.get(word)
    return None if look is None else look(cabinet)
