"""TASKS of HANDS done ONE AT A TIME, in the order of a LINE."""

from drawerways.deeds import done


def in_order(tree, hands, line):
    """Tell the results of the TASKS of a LINE, rising, and the TREE behind them all."""
    results = []
    for task in line:
        hand, k = task
        tree, told = done(tree, hands[hand][k])
        results.append((task, told))
    return tuple(sorted(results)), tree


def trees_along(tree, hands, line, *, first=0):
    """Tell the TREE ahead of a LINE and those behind each TASK of it, from number first on."""
    trees = [tree]
    for hand, k in line:
        tree, _ = done(tree, hands[hand][k])
        trees.append(tree)
    return tuple(trees[first:])
