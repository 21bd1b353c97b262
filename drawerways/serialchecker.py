"""The checker of SERIAL PAPERS: it seeks nothing, and what it lets by is so."""

from drawerways.errors import NoPaper
from drawerways.kinds import is_pair_of_numbers
from drawerways.spans import first_misfit, spans_by_task
from drawerways.tasks import in_order


def lets_serial(tree, hands, spans, results, end, thing):
    """Tell True of a SERIAL PAPER; refuse any other thing."""
    if not isinstance(thing, tuple):
        raise NoPaper("shape", -1)
    check_tasks(spans, thing)
    misfit = first_misfit(spans, thing)
    if misfit is not None:
        raise NoPaper("ahead", misfit[1])
    check_told(tree, hands, results, end, thing)
    return True


def check_tasks(spans, thing):
    """Refuse a tuple of other things than the TASKS of SPANS, each once."""
    left = spans_by_task(spans)
    for j, task in enumerate(thing):
        # Looked at first: True would be found as 1, and a list in no dict.
        if not is_pair_of_numbers(task) or task not in left:
            raise NoPaper("task", j)
        del left[task]
    if left:
        raise NoPaper("few", -1)


def check_told(tree, hands, results, end, line):
    """Refuse a LINE of which not just these RESULTS and this END come."""
    came, last = in_order(tree, hands, line)
    told_by = {task: told for task, told in came}
    due_by = {task: told for task, told in results}
    for j, task in enumerate(line):
        if told_by[task] != due_by[task]:
            raise NoPaper("told", j)
    if last != end:
        raise NoPaper("end", -1)
