"""EVENTS, LOGS and SCHEDULES read from texts.

The void text is split into one word without signs; that can't stand, and word 0 is due for no words, too.
"""

from drawerways.deedreader import number_written
from drawerways.errors import NoText
from drawerways.eventkinds import first_amiss


def read_event(text, *, line=0):
    """Tell the EVENT that a text writes."""
    things = tuple([thing_written(word) for word in text.split(" ")])
    place = first_amiss(things)
    if place is not None:
        raise NoText(line, place)
    return things


def read_log(text):
    """Tell the LOG that a text writes."""
    if text == "":
        return ()
    return tuple([read_event(row, line=number) for number, row in enumerate(text.split("\n"))])


def read_schedule(text):
    """Tell the SCHEDULE that a text writes."""
    if text == "":
        return ()
    hands = []
    for place, word in enumerate(text.split(" ")):
        hand = number_written(word)
        if hand is None:
            raise NoText(0, place)
        hands.append(hand)
    return tuple(hands)


def thing_written(word):
    """Tell what a word would write in an EVENT: whether it may stand there isn't asked here."""
    if word.startswith("(") and word.endswith(")"):
        return tuple_written(word[1:-1])
    return plain_written(word)


def tuple_written(inner):
    """Tell the tuple that stands between brackets; the NAMES that a "list" told stand in some of their own."""
    if inner.startswith("names,(") and inner.endswith(")"):
        return "names", plain_things(inner[7:-1])
    return plain_things(inner)


def plain_things(text):
    """Tell the things that stand between commas."""
    if text == "":
        return ()
    return tuple([plain_written(word) for word in text.split(",")])


def plain_written(word):
    """Tell None, the NUMBER or the text that a word writes that is no tuple."""
    if word == "-":
        return None
    number = number_written(word)
    return word if number is None else number
