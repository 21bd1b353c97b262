"""A desk: rows of text in, texts out, by one cabinet; and a diary of what was asked."""

from drawerways.cabinet import Cabinet
from drawerways.deedreader import number_written, read_deed, read_tree, read_way
from drawerways.deedtexts import shown_tree
from drawerways.desklooks import looked, parted
from drawerways.errors import NoLine, NoStep, NoText
from drawerways.eventreader import read_schedule
from drawerways.eventtexts import shown_event
from drawerways.trees import EMPTY


class Desk:
    """A cabinet that is told what to do by rows of text."""

    def __init__(self):
        self._cabinet = Cabinet(EMPTY)
        self._diary = []

    def say(self, row):
        """Do what a row says; tell the answer."""
        n = len(self._diary) // 2
        self._diary.append(("in", n))
        try:
            return self._answer(row)
        finally:
            self._diary.append(("out", n))

    def diary(self):
        """Tell when which row came in and went out."""
        return tuple(self._diary)

    def is_open(self):
        """Tell whether no row is being answered."""
        return len(self._diary) % 2 == 0

    def _answer(self, row):
        """Answer a row; refuse one of no form."""
        if not isinstance(row, str):
            raise NoLine(row)
        word, blank, rest = row.partition(" ")
        if word == "hand":
            return self._hand(rest.split(" | ") if blank else [])
        if blank:
            return self._answer_with(word, thing_behind(row, word, rest))
        if word == "rounds":
            return self._rounds(())
        if word == "back":
            return self._back(1)
        told = looked(self._cabinet, word)
        if told is None:
            raise NoLine(row)
        return told

    def _answer_with(self, word, thing):
        """Answer a row with this word and the thing that was read behind it."""
        if word == "tree":
            self._cabinet = Cabinet(thing)
            return "ok"
        if word == "do":
            return self._do(thing)
        if word == "rounds":
            return self._rounds(thing)
        if word == "back":
            return self._back(thing)
        if word == "cut":
            return shown_tree(self._cabinet.cut_at(thing))
        return parted([str(part) for part in self._cabinet.look(thing)])

    def _hand(self, texts):
        """Add a hand with the DEEDS of these texts; tell its number."""
        deeds = tuple([read_deed(text, line=j) for j, text in enumerate(texts)])
        if len(self._cabinet) > 0:
            raise NoStep("late")
        hands = self._cabinet.hands_first()
        self._cabinet = Cabinet(self._cabinet.tree_first(), hands=hands + (deeds,))
        return str(len(hands))

    def _do(self, schedule):
        """Do a STEP of each of these hands; those ahead of one that is refused stand."""
        return " | ".join([shown_event(self._cabinet.step(hand)) for hand in schedule])

    def _rounds(self, order):
        """Do ROUND by ROUND in an order of all hands, or in the rising one; tell how many."""
        everyone = list(range(len(self._cabinet.hands_first())))
        if order != () and sorted(order) != everyone:
            raise NoStep("hands")
        return str(self._cabinet.until_quiet(by=order))

    def _back(self, times):
        """Take EVENTS back; tell how many."""
        return str(len(self._cabinet.back(times)))


def thing_behind(row, word, text):
    """Tell the thing that the text behind a row's word writes; refuse a row of no form."""
    try:
        if word == "tree":
            return read_tree(text)
        if word == "look":
            return read_way(text)
        if word in ("do", "rounds") and text != "":
            return read_schedule(text)
    except NoText:
        raise NoLine(row) from None
    number = number_written(text)
    if word not in ("back", "cut") or number is None:
        raise NoLine(row)
    return number
