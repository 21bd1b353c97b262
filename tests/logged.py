"""RUNS, and the document's words on their SPANS, RESULTS and MOMENTS once more, told from the STATES along them."""

from drawerways.runs import run, until_quiet
from drawerways.states import begun
from drawerways.steps import step

from model import Model
from things import BESIDE, CHAIN, DEEP, SMALL


def logged(tree, hands, *schedules):
    """The LOG of SCHEDULES, each from the STATE of the one ahead on, and then of ROUNDS until all is QUIET."""
    state, log = begun(tree, hands), ()
    for schedule in schedules:
        state, more = run(state, schedule)
        log += more
    return log + until_quiet(state)[1]


def states_along(tree, hands, log):
    """The STATE ahead of all, and that behind each EVENT."""
    states = [begun(tree, hands)]
    for event in log:
        state, again = step(states[-1], event[0])
        assert again == event
        states.append(state)
    return states


def through(log):
    """Each "told" EVENT: (n, task, told)."""
    return [(n, (event[0], event[2]), event[3]) for n, event in enumerate(log) if event[1] == "told"]


def spans(log):
    """SPANS: of each TASK the first EVENT of its hand that is behind all earlier ones it TOLD by."""
    found = []
    for n, task, _ in through(log):
        ends = [m for m, (hand, _), _ in through(log) if hand == task[0] and m < n]
        begin = min(m for m, event in enumerate(log) if event[0] == task[0] and m > max(ends, default=-1))
        found.append((task, begin, n))
    return tuple(sorted(found))


def results(log):
    return tuple(sorted((task, told) for _, task, told in through(log)))


def moments(tree, hands, log):
    """MOMENTS, in the ORDER."""
    states = states_along(tree, hands, log)
    found = [(moment_of(states, log, n, task, told), task) for n, task, told in through(log)]
    return tuple((task, n, side) for (n, side), task in sorted(found))


def moment_of(states, log, n, task, told):
    hand, _ = task
    if states[n][5][hand][1] != "last":
        return (n, 1)
    begin = max(m for m, event in enumerate(log[:n]) if event[0] == hand and event[1] == "begin")
    own = [m for m in range(begin, n) if log[m][0] == hand]
    if told[0] == "found":
        return (own[-1], 1)
    if told[0] == "sheet":
        return (max(m for m in own if log[m][1:3] == ("walk", told[1] - 1)), 1)
    walked = max(m for m in own if log[m][1:] == ("walk", told[1], None))
    drawer = states[walked][5][hand][3][-1]
    if drawer in Model(states[walked][1][:2]).kinds:
        return (walked, 1)
    return (next(m for m, _, said in through(log) if said == ("dropped", drawer)), 0)


def all_logs(tree, hands):
    """The LOG of each way in which hands that don't wait can step, until all is QUIET."""
    paths = [(begun(tree, hands), ())]
    while paths:
        state, log = paths.pop()
        steps = [step(state, hand) for hand in range(len(hands))]
        more = [(newer, log + (event,)) for newer, event in steps if newer != state]
        if not more:
            yield log
        paths += more


# Two hands, or three, whose DEEDS meet; few enough STEPS that each way to do them is looked at.
MEETING = [
    (SMALL, ((("look", ("a", "x")),), (("drop", ("a",)),))),
    (CHAIN, ((("look", ("a", "a", "a", "a", "x")),), (("drop", ("a", "a", "a", "a")), ("drop", ("a", "a", "a"))))),
    (SMALL, ((("make", ("a", "x", "y"), "sheet"), ("list", ())), (("drop", ("a",)),))),
    (SMALL, ((("list", ("b",)),), (("move", ("b",), ("a", "c")),))),
    (BESIDE, ((("list", ("a", "c")),), (("move", ("b", "a"), ("a", "d")),))),
    (SMALL, ((("look", ("b",)),), (("swap", ("a",), ("b",)),))),
    (BESIDE, ((("look", ("a", "a")),), (("drop", ("a", "a")), ("make", ("a", "a"), "sheet")))),
    (SMALL, ((("drop", ("a", "x", "y")),), (("drop", ("a",)), ("make", ("a",), "drawer")))),
    (SMALL, ((("link", ("a", "x", "y"), ("c",)),), (("drop", ("a",)),))),
    (SMALL, ((("link", ("b",), ("a", "x")),), (("drop", ("a",)),))),
    (DEEP, ((("link", ("b", "x"), ("c", "y")),), (("drop", ("b",)), ("list", ())))),
    (SMALL, ((("look", ()),), (("make", ("c",), "sheet"),), (("drop", ("b",)),))),
    (SMALL, ((("make", ("a", "x"), "sheet"),), (("drop", ("a",)),))),
    (SMALL, ((("move", ("b",), ("a", "b")),), (("look", ("a", "b")), ("drop", ("b",))))),
]
