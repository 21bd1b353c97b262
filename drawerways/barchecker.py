"""The checker of BARS: it seeks nothing, and where it lets one by there is no SERIAL PAPER."""

from drawerways.errors import NoPaper
from drawerways.kinds import is_pair_of_numbers, is_tuple_of
from drawerways.spans import next_tasks
from drawerways.tasks import task_done


def lets_bar(tree, hands, spans, results, end, thing):
    """Tell True of a BAR; refuse any other thing."""
    told_by = {task: told for task, told in results}
    # No TASK is ahead of the whole, so none TOLD something else.
    check_part((hands, spans, told_by, end), (), tree, True, thing)
    return True


def check_part(asked, path, tree, as_due, part):
    """Refuse a thing that is no BAR's part at a PATH.

    The TREE is that behind the PATH; as_due tells whether its last TASK TOLD what the RESULTS have.
    """
    hands, spans, told_by, end = asked
    if not is_part(part):
        raise NoPaper("shape", path)
    left = [span[0] for span in spans if span[0] not in path]
    if part[0] != word_due(left, as_due, tree == end):
        raise NoPaper("word", path)
    if part[0] != "by":
        return
    rows = part[1]
    if not are_first_things(rows, next_tasks(spans, left)):
        raise NoPaper("rows", path)
    for task, inner in rows:
        newer, told = task_done(tree, hands, task)
        check_part(asked, path + (task,), newer, told == told_by[task], inner)


def is_part(thing):
    """Tell whether a thing is a BAR's part by kind, whatever its own parts are."""
    if thing in (("told",), ("end",)):
        return True
    if not is_tuple_of(thing, 2) or thing[0] != "by" or not isinstance(thing[1], tuple):
        return False
    return all([is_tuple_of(row, 2) for row in thing[1]])


def word_due(left, as_due, at_end):
    """Tell the word that a part has to have, None where no word is right."""
    if not as_due:
        return "told"
    if left:
        return "by"
    return None if at_end else "end"


def are_first_things(rows, tasks):
    """Tell whether the first things of rows are just these TASKS, in this order."""
    firsts = [row[0] for row in rows]
    # Looked at by kind first: True would be equal to 1.
    return all([is_pair_of_numbers(first) for first in firsts]) and firsts == tasks
