"""The MOMENTS at which a RUN's TASKS may be taken to be done whole, and the ORDER that comes of them."""

from drawerways.tasks import in_order


def moments_of(tree, hands, log):
    """Tell (task, n, side) of all TASKS that are THROUGH, in the ORDER."""
    moments = []
    # Of each hand: the drawer it came to, and the MOMENT of what it saw last, None once it holds a drawer.
    at = {}
    seen = {}
    dropped = {}
    for n, event in enumerate(log):
        hand, word = event[0], event[1]
        if word == "begin":
            seen[hand] = (n, 1)
        elif word == "walk":
            drawer = at[hand] if event[2] > 0 else 0
            # A drawer that lived no more had none of the NAMES just ahead of its drop either.
            gone = event[3] is None and drawer in dropped
            seen[hand] = (dropped[drawer], 0) if gone else (n, 1)
            at[hand] = event[3]
        elif word == "locks":
            seen[hand] = None
        elif word == "told":
            moments.append((seen[hand] or (n, 1), (hand, event[2])))
            if event[3][0] == "dropped":
                dropped[event[3][1]] = n
    return tuple([(task, moment[0], moment[1]) for moment, task in sorted(moments)])


def run_order(tree, hands, log):
    """Tell the ORDER of all TASKS that are THROUGH."""
    return tuple([task for task, _, _ in moments_of(tree, hands, log)])


def end_of(tree, hands, log):
    """Tell the TREE behind all TASKS that are THROUGH."""
    _, end = in_order(tree, hands, run_order(tree, hands, log))
    return end
