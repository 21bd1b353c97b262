"""SPANS and RESULTS of a RUN, from its LOG alone."""


def spans_of(tree, hands, log):
    """Tell the SPANS of all TASKS that are THROUGH, rising."""
    begins = {}
    spans = []
    for n, event in enumerate(log):
        hand = event[0]
        begin = begins.setdefault(hand, n)
        if event[1] == "told":
            spans.append(((hand, event[2]), begin, n))
            del begins[hand]
    return tuple(sorted(spans))


def results_of(tree, hands, log):
    """Tell the RESULTS of all TASKS that are THROUGH, rising."""
    return tuple(sorted([((event[0], event[2]), event[3]) for event in log if event[1] == "told"]))
