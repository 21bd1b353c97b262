"""Orders of TASKS sought: a SERIAL PAPER or the BAR that shows there is none, and all that can come of them."""

from drawerways.errors import NoOrder
from drawerways.spans import next_tasks
from drawerways.tasks import task_done

MOST = 6


def serial_paper(tree, hands, spans, results, end, *, most=MOST):
    """Tell a LINE that FITS SPANS and of which these RESULTS and this END come; refuse with a BAR where none does."""
    left = tasks_to_order(spans, most)
    told_by = {task: told for task, told in results}
    line, bar = line_or_part((hands, spans, told_by, end), tree, left, {})
    if line is None:
        raise NoOrder(bar)
    return line


def outcomes(tree, hands, spans, *, most=MOST):
    """Tell the pairs (results, end) of all LINES that FIT SPANS, rising."""
    found = [(tasks_to_order(spans, most), (), tree)]
    for _ in spans:
        found = with_one_more(hands, spans, found)
    return tuple(sorted([(results, end) for _, results, end in found]))


def tasks_to_order(spans, most):
    """Tell the TASKS of SPANS; refuse more than most."""
    if len(spans) > most:
        raise NoOrder(None)
    return tuple([span[0] for span in spans])


def without(left, task):
    """Tell the TASKS LEFT without this one."""
    return tuple([other for other in left if other != task])


def line_or_part(asked, tree, left, parts):
    """Tell (LINE, None) of TASKS LEFT by which what is asked comes on this TREE, or (None, a BAR's part).

    What is LEFT and the TREE decide on it alone, so parts keeps each that was found already.
    """
    hands, spans, told_by, end = asked
    if left == ():
        return ((), None) if tree == end else (None, ("end",))
    if (left, tree) in parts:
        return None, parts[(left, tree)]
    rows = []
    for task in next_tasks(spans, left):
        newer, told = task_done(tree, hands, task)
        line, part = None, ("told",)
        if told == told_by[task]:
            line, part = line_or_part(asked, newer, without(left, task), parts)
        if line is not None:
            return (task,) + line, None
        rows.append((task, part))
    parts[(left, tree)] = ("by", tuple(rows))
    return None, parts[(left, tree)]


def with_one_more(hands, spans, found):
    """Tell the triples (left, results, TREE) that come of those found by one TASK more, each once."""
    newer = {}
    for left, results, tree in found:
        for task in next_tasks(spans, left):
            end, told = task_done(tree, hands, task)
            more = tuple(sorted(results + ((task, told),)))
            newer[(without(left, task), more, end)] = True
    return list(newer)
