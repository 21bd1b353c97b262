"""Runs: STEPS by a SCHEDULE, or ROUND by ROUND until all hands are through."""

from drawerways.errors import NoHand
from drawerways.stateedits import is_hand
from drawerways.states import is_quiet
from drawerways.steps import step

LIMIT = 400


def run(state, schedule, *, most=LIMIT):
    """Tell the STATE behind the STEPS of a SCHEDULE, most at the most, and the LOG."""
    check_schedule(state[0], schedule)
    log = []
    for hand in schedule[:most]:
        state, event = step(state, hand)
        log.append(event)
    return state, tuple(log)


def check_schedule(hands, schedule):
    """Refuse a SCHEDULE with a hand that there is none of."""
    for hand in schedule:
        if not is_hand(hands, hand):
            raise NoHand(hand)


def until_quiet(state, *, by=()):
    """Do ROUND by ROUND until all is QUIET; tell the STATE, the LOG, and how many ROUNDS."""
    order = order_of_rounds(state[0], by)
    log = []
    many = 0
    while not is_quiet(state):
        state, events = run(state, order, most=len(order))
        log.extend(events)
        many += 1
    return state, tuple(log), many


def order_of_rounds(hands, by):
    """Tell the order of all hands' numbers that by has, or the rising one where it is ()."""
    if by == ():
        return tuple(range(len(hands)))
    return by


def rounds(*, deeds, hands, names):
    """Tell by how many ROUNDS at the latest all hands are through."""
    return (deeds + hands * deeds + 1) * (2 * names + 14)
