"""The checker of MOMENT PAPERS: it seeks nothing, and what it lets by is so."""

from drawerways.errors import NoPaper
from drawerways.kinds import is_number, is_pair_of_numbers, is_tuple_of
from drawerways.spans import spans_by_task
from drawerways.spansof import results_of, spans_of
from drawerways.tasks import task_done


def lets_moments(tree, hands, log, thing):
    """Tell how many entries a MOMENT PAPER of a RUN has; refuse any other thing."""
    if not isinstance(thing, tuple) or not all([is_moment(entry) for entry in thing]):
        raise NoPaper("shape", -1)
    span_by = spans_by_task(spans_of(tree, hands, log))
    told_by = {task: told for task, told in results_of(tree, hands, log)}
    ahead = {}
    done_by = {}
    least = (0, 0)
    for i, (task, n, side) in enumerate(thing):
        check_moment(span_by, ahead, least, i, (task, n, side))
        hand, k = task
        if k != done_by.get(hand, 0):
            raise NoPaper("hand", i)
        tree, told = task_done(tree, hands, task)
        if told != told_by[task]:
            raise NoPaper("told", i)
        ahead[task] = True
        done_by[hand] = k + 1
        least = (n, side)
    if len(thing) < len(span_by):
        raise NoPaper("few", -1)
    return len(thing)


def is_moment(thing):
    """Tell whether a thing is (task, n, side) by kind."""
    if not is_tuple_of(thing, 3) or not is_pair_of_numbers(thing[0]):
        return False
    return is_number(thing[1]) and is_number(thing[2]) and thing[2] <= 1


def check_moment(span_by, ahead, least, i, entry):
    """Refuse entry i where its TASK can't stand there, or its MOMENT is not of its SPAN or less than the least."""
    task, n, side = entry
    if task not in span_by or task in ahead:
        raise NoPaper("task", i)
    begin, end = span_by[task]
    if not begin <= n <= end:
        raise NoPaper("span", i)
    if (n, side) < least:
        raise NoPaper("falls", i)
