"""WAYS, DEEDS and TREES read from texts.

The void text is split into one word without signs; word 0, where that can't stand, is due for no words, too.
"""

from drawerways.deeds import fits, form_of
from drawerways.errors import NoText
from drawerways.kinds import is_way
from drawerways.trees import is_entries, is_tree


def read_way(text, *, line=0):
    """Tell the WAY that a text writes."""
    way = way_written(text)
    if way is None:
        raise NoText(line, 0)
    return way


def read_deed(text, *, line=0):
    """Tell the DEED that a text writes."""
    words = text.split(" ")
    forms = form_of(words[0])
    if forms is None:
        raise NoText(line, 0)
    parts = [words[0]]
    for place, word in enumerate(words[1:]):
        part = part_written(forms[place], word) if place < len(forms) else None
        if part is None:
            raise NoText(line, place + 1)
        parts.append(part)
    if len(parts) <= len(forms):
        raise NoText(line, len(words))
    return tuple(parts)


def read_tree(text, *, line=0):
    """Tell the TREE that a text writes."""
    words = text.split(" ")
    made = number_written(words[0])
    if made is None:
        raise NoText(line, 0)
    rows = []
    for place, word in enumerate(words[1:], start=1):
        row = row_written(word)
        if row is None or (rows and row[0] <= rows[-1][0]):
            raise NoText(line, place)
        rows.append(row)
    tree = (tuple(rows), made)
    if not is_tree(tree):
        raise NoText(line, len(words))
    return tree


def way_written(text):
    """Tell the WAY that a text writes, None where it writes none."""
    if text == "/":
        return ()
    names = tuple(text.split("/"))
    return names if is_way(names) else None


def part_written(form, word):
    """Tell what a word writes where a DEED has this form, None where it can't stand there."""
    part = word if form == "kind" else way_written(word)
    return part if fits(form, part) else None


def number_written(word):
    """Tell the NUMBER that a word writes, None where it writes none."""
    if not 1 <= len(word) <= 12 or not all(["0" <= sign <= "9" for sign in word]):
        return None
    if word[0] == "0" and word != "0":
        return None
    return int(word)


def row_written(word):
    """Tell the row of a TREE that a word writes by itself, None where it writes none."""
    figures, colon, rest = word.partition(":")
    node = number_written(figures)
    if node is None:
        return None
    if colon == "":
        return (node, "sheet", ())
    entries = entries_written(rest)
    if entries is None:
        return None
    return (node, "drawer", entries)


def entries_written(text):
    """Tell the ENTRIES that a text writes, None where it writes none."""
    pieces = text.split(",") if text != "" else []
    pairs = []
    for piece in pieces:
        name, _, figures = piece.partition("=")
        pairs.append((name, number_written(figures)))
    entries = tuple(pairs)
    return entries if is_entries(entries) else None
