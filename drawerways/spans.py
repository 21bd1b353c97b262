"""SPANS of TASKS: which are AHEAD of which, and the LINES that FIT them."""

from drawerways.errors import NoOrder
from drawerways.kinds import is_number, is_pair_of_numbers, is_tuple_of, rises


def is_span(thing):
    """Tell whether a thing is (task, begin, end), looked at alone."""
    if not is_tuple_of(thing, 3) or not is_pair_of_numbers(thing[0]):
        return False
    _, begin, end = thing
    return is_number(begin) and is_number(end) and begin <= end


def is_task(hands, hand, k):
    """Tell whether HANDS have a DEED of this number in the hand of that number."""
    return hand < len(hands) and k < len(hands[hand])


def is_spans(hands, thing):
    """Tell whether a thing is SPANS of the HANDS."""
    if not isinstance(thing, tuple) or not all([is_span(span) for span in thing]):
        return False
    due = {}
    for (hand, k), begin, end in thing:
        due_k, least = due.get(hand, (0, 0))
        if k != due_k or begin < least or not is_task(hands, hand, k):
            return False
        due[hand] = (k + 1, end + 1)
    return rises([span[0] for span in thing])


def spans_by_task(spans):
    """Tell of each TASK of SPANS its (begin, end)."""
    return {task: (begin, end) for task, begin, end in spans}


def is_ahead(spans, one, other):
    """Tell whether one TASK of SPANS is AHEAD of another one."""
    span_by = spans_by_task(spans)
    return span_by[one][1] < span_by[other][0]


def next_tasks(spans, left):
    """Tell, of TASKS LEFT, those that none LEFT is AHEAD of, in their order."""
    span_by = spans_by_task(spans)
    ends = [span_by[task][1] for task in left]
    return [task for task in left if not any([end < span_by[task][0] for end in ends])]


def first_misfit(spans, line):
    """Tell the places (i, j) of the first TASK j that is AHEAD of one ahead of it in the LINE, i the first such.

    Tell None where the LINE FITS.
    """
    span_by = spans_by_task(spans)
    for j, other in enumerate(line):
        for i, one in enumerate(line[:j]):
            if span_by[other][1] < span_by[one][0]:
                return i, j
    return None


def moments_by(spans, line):
    """Tell the least MOMENTS of a LINE of just the TASKS of SPANS; refuse one that doesn't FIT."""
    misfit = first_misfit(spans, line)
    if misfit is not None:
        i, j = misfit
        raise NoOrder((line[i], line[j]))
    span_by = spans_by_task(spans)
    moments = []
    moment = 0
    for task in line:
        moment = max(moment, span_by[task][0])
        moments.append((task, moment))
    return tuple(moments)
