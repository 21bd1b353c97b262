"""TASKS of HANDS done ONE AT A TIME, in the order of a LINE."""

from drawerways.deeds import done


def deed_of(hands, task):
    """Tell the DEED of a TASK of HANDS."""
    hand, k = task
    return hands[hand][k]


def task_done(tree, hands, task):
    """Tell the TREE behind a TASK that is done, and what it TELLS."""
    return done(tree, deed_of(hands, task))


def in_order(tree, hands, line):
    """Tell the results of the TASKS of a LINE, rising, and the TREE behind them all."""
    results = []
    for task in line:
        tree, told = task_done(tree, hands, task)
        results.append((task, told))
    return tuple(sorted(results)), tree


def trees_along(tree, hands, line, *, first=0):
    """Tell the TREE ahead of a LINE and those behind each TASK of it, from number first on."""
    trees = [tree]
    for task in line:
        tree, _ = task_done(tree, hands, task)
        trees.append(tree)
    return tuple(trees[first:])
