"""EVENTS, LOGS and SCHEDULES written as texts."""


def shown_event(event):
    """Write an EVENT."""
    return " ".join([shown_thing(thing) for thing in event])


def shown_log(log):
    """Write a LOG, an EVENT in each row."""
    return "\n".join([shown_event(event) for event in log])


def shown_schedule(schedule):
    """Write a SCHEDULE."""
    return " ".join([str(hand) for hand in schedule])


def shown_thing(thing):
    """Write a thing of an EVENT, which may be a tuple of such."""
    if thing is None:
        return "-"
    if isinstance(thing, tuple):
        return "(" + ",".join([shown_thing(part) for part in thing]) + ")"
    return str(thing)
