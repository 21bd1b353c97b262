"""Scripts of STEPS: each EVENT with all that it changes in the STATE; the rest has to be as it was."""

from drawerways.states import begun, is_quiet
from drawerways.steps import step

from things import just_tuples


def row(k, phase, noted=None, spots=(), reads=0, due=None):
    """What a hand's row has to be."""
    return (k, phase, noted, spots, reads, due)


def new(k):
    return row(k, "new")


def through(k):
    return row(k, "through")


def changed_state(state, hand, changes):
    """The STATE with these things of it, and the hand's row, others."""
    hands, (nodes, made, journal), locks, key, turn, rows = state
    there = {"nodes": nodes, "made": made, "journal": journal, "locks": locks, "key": key, "turn": turn, "row": None}
    assert set(changes) <= set(there)
    there.update(changes)
    if there["row"] is not None:
        rows = rows[:hand] + (there["row"],) + rows[hand + 1:]
    disk = (there["nodes"], there["made"], there["journal"])
    return hands, disk, there["locks"], there["key"], there["turn"], rows


def played(test, tree, hands, script):
    """Play a script of (EVENT, changes) from the beginning on; told is the STATE behind it."""
    return played_on(test, begun(tree, hands), script)


def played_on(test, state, script):
    for place, (event, changes) in enumerate(script):
        due = changed_state(state, event[0], changes)
        told = step(state, event[0])
        test.assertIs(type(told), tuple)
        test.assertEqual(told[1], event, place)
        test.assertEqual(told[0], due, (place, event))
        test.assertTrue(just_tuples(told), (place, event))
        state = told[0]
    return state


def stepped(state, hands):
    """The STATE behind STEPS of these hands, and the EVENTS."""
    found = []
    for hand in hands:
        state, event = step(state, hand)
        found.append(event)
    return state, found


def stepped_to(state, hand, phase, most=40):
    """The STATE once a hand has come to a phase by its own STEPS."""
    for _ in range(most):
        if state[5][hand][1] == phase:
            return state
        state, _ = step(state, hand)
    raise AssertionError((hand, phase, state))


def told_alone(state, hand, most=60):
    """The STATE once a hand's DEED was told by its own STEPS, and its EVENTS up to that."""
    events = []
    for _ in range(most):
        state, event = step(state, hand)
        events.append(event)
        if event[1] == "told":
            return state, events
    raise AssertionError(events)


def stepped_through(state, schedule):
    """The STATE behind a SCHEDULE that is done over and over until all is QUIET, and the EVENTS."""
    found = []
    while not is_quiet(state):
        for hand in schedule + tuple(range(len(state[0]))):
            state, event = step(state, hand)
            found.append(event)
            if is_quiet(state):
                break
    return state, found
