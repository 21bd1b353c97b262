"""EVENTS of each form with their texts; the document's words on these forms once more."""

from model import name, number
from things import HUGE

# Each form of [51] to [57]; what is told, each form of [4].
EVENTS = {
    "0 rests": (0, "rests"),
    "3 waits key 1": (3, "waits", "key", 1),
    "3 waits turn 0": (3, "waits", "turn", 0),
    "3 waits 12 7": (3, "waits", 12, 7),
    "0 waits 0 0": (0, "waits", 0, 0),
    "1 again 2 turn": (1, "again", 2, "turn"),
    "1 again 0 dead": (1, "again", 0, "dead"),
    "2 key": (2, "key"),
    "0 begin 1 4": (0, "begin", 1, 4),
    "0 begin 0 5": (0, "begin", 0, 5),
    "1 walk 0 -": (1, "walk", 0, None),
    "1 walk 3 17": (1, "walk", 3, 17),
    "1 walk 3 0": (1, "walk", 3, 0),
    "0 locks 0": (0, "locks", 0),
    "0 finds 3 -": (0, "finds", 3, None),
    "0 finds 3 4": (0, "finds", 3, 4),
    "0 empty 4": (0, "empty", 4),
    "0 odd 1": (0, "odd", 1),
    "0 odd 2": (0, "odd", 2),
    "0 out 0 b": (0, "out", 0, "b"),
    "0 in 1 key": (0, "in", 1, "key"),
    "0 journal (move,0,b,1,c,3,-)": (0, "journal", ("move", 0, "b", 1, "c", 3, None)),
    "0 journal (move,0,b,1,c,3,4)": (0, "journal", ("move", 0, "b", 1, "c", 3, 4)),
    "0 journal (swap,2,abcdefgh,7,a,4,8)": (0, "journal", ("swap", 2, "abcdefgh", 7, "a", 4, 8)),
    "0 journal (swap,2,b,7,a,4,-)": (0, "journal", ("swap", 2, "b", 7, "a", 4, None)),
    "0 told 1 (found,sheet,12)": (0, "told", 1, ("found", "sheet", 12)),
    "0 told 1 (found,drawer,0)": (0, "told", 1, ("found", "drawer", 0)),
    "0 told 0 (names,())": (0, "told", 0, ("names", ())),
    "0 told 0 (names,(a))": (0, "told", 0, ("names", ("a",))),
    "0 told 0 (names,(a,b,names))": (0, "told", 0, ("names", ("a", "b", "names"))),
    "0 told 0 (none,3)": (0, "told", 0, ("none", 3)),
    "0 told 0 (none,3,0)": (0, "told", 0, ("none", 3, 0)),
    "0 told 0 (sheet,0)": (0, "told", 0, ("sheet", 0)),
    "0 told 0 (sheet,1,1)": (0, "told", 0, ("sheet", 1, 1)),
    "0 told 0 (there)": (0, "told", 0, ("there",)),
    "0 told 0 (made,4)": (0, "told", 0, ("made", 4)),
    "0 told 0 (full)": (0, "told", 0, ("full",)),
    "0 told 0 (dropped,4)": (0, "told", 0, ("dropped", 4)),
    "0 told 0 (kind)": (0, "told", 0, ("kind",)),
    "0 told 0 (linked,4)": (0, "told", 0, ("linked", 4)),
    "0 told 0 (same)": (0, "told", 0, ("same",)),
    "0 told 0 (inside)": (0, "told", 0, ("inside",)),
    "0 told 0 (moved,4)": (0, "told", 0, ("moved", 4)),
    "0 told 0 (swapped,4,0)": (0, "told", 0, ("swapped", 4, 0)),
    "999999999999 locks 999999999999": (10 ** 12 - 1, "locks", 10 ** 12 - 1),
}

BEYOND = [
    (HUGE, "rests"), (0, "waits", HUGE, HUGE), (0, "told", HUGE, ("none", HUGE, 1)), (0, "begin", 10 ** 12, HUGE),
    (0, "journal", ("move", HUGE, "a", HUGE, "a", HUGE, HUGE)), (0, "told", 0, ("swapped", HUGE, HUGE)),
]

# How many things stand behind the hand and the word.
LONG = {
    "rests": 0, "key": 0, "waits": 2, "again": 2, "told": 2, "begin": 2, "walk": 2, "locks": 1, "finds": 2, "empty": 1,
    "journal": 1, "odd": 1, "out": 2, "in": 2,
}


def told(thing):
    """Whether a thing is a tuple that some DEED TELLS, by kind."""
    if type(thing) is not tuple or not thing or type(thing[0]) is not str:
        return False
    word, rest = thing[0], thing[1:]
    if word in ("there", "full", "kind", "same", "inside"):
        return rest == ()
    if word == "names":
        if len(rest) != 1 or type(rest[0]) is not tuple or not all(name(part) for part in rest[0]):
            return False
        return list(rest[0]) == sorted(set(rest[0]))
    if word == "found":
        return len(rest) == 2 and rest[0] in ("drawer", "sheet") and type(rest[0]) is str and number(rest[1])
    if not all(number(part) for part in rest):
        return False
    if word in ("none", "sheet"):
        return len(rest) == 1 or (len(rest) == 2 and rest[1] in (0, 1))
    return len(rest) == {"made": 1, "dropped": 1, "linked": 1, "moved": 1, "swapped": 2}.get(word)


def journal(thing):
    if type(thing) is not tuple or len(thing) != 7 or type(thing[0]) is not str or thing[0] not in ("move", "swap"):
        return False
    _, p, first, q, other, s, t = thing
    return all(map(number, (p, q, s))) and name(first) and name(other) and (t is None or number(t))


def may_follow(word, place, thing):
    """Whether a thing may stand at this place behind an EVENT's hand and word."""
    if word == "told" and place == 1:
        return told(thing)
    if word == "journal":
        return journal(thing)
    if word == "waits" and place == 0:
        return number(thing) or (type(thing) is str and thing in ("key", "turn"))
    if word == "again" and place == 1:
        return type(thing) is str and thing in ("turn", "dead")
    if word in ("walk", "finds") and place == 1:
        return thing is None or number(thing)
    if word in ("out", "in") and place == 1:
        return name(thing)
    return number(thing)


def event(thing):
    """Whether a thing is an EVENT, by kind."""
    if type(thing) is not tuple or len(thing) < 2 or not number(thing[0]) or type(thing[1]) is not str:
        return False
    many = LONG.get(thing[1])
    return many == len(thing) - 2 and all(
        may_follow(thing[1], place, part) for place, part in enumerate(thing[2:]))


def figures(word):
    return 0 < len(word) < 13 and set(word) <= set("0123456789") and (word == "0" or word[0] != "0")


def plain(word):
    if figures(word):
        return int(word)
    return None if word == "-" else word


def parsed(word, at):
    """The thing that begins at a place of a word, and the place behind it."""
    if word[at] != "(":
        behind = at
        while word[behind] not in "(),":
            behind += 1
        return plain(word[at:behind]), behind
    at += 1
    parts = []
    while word[at] != ")":
        part, at = parsed(word, at)
        parts.append(part)
        if word[at] == "," and word[at + 1] != ")":
            at += 1
        elif word[at] != ")":
            raise IndexError
    return tuple(parts), at + 1


def written(word):
    """What a word of an EVENT writes; the word itself where it writes no such thing."""
    if word[:1] != "(":
        return plain(word)
    try:
        thing, behind = parsed(word, 0)
    except IndexError:
        return word
    return thing if behind == len(word) else word


def read(text):
    """What a text writes, or the number of the word that is amiss."""
    words = text.split(" ")
    if not figures(words[0]):
        return 0
    if len(words) == 1 or words[1] not in LONG:
        return 1
    for place, word in enumerate(words[2:]):
        if place >= LONG[words[1]] or not may_follow(words[1], place, written(word)):
            return place + 2
    if len(words) < LONG[words[1]] + 2:
        return len(words)
    return (int(words[0]), words[1]) + tuple(written(word) for word in words[2:])
