"""WAYS, DEEDS and TREES written as texts."""


def shown_way(way):
    """Write a WAY."""
    if way == ():
        return "/"
    return "/".join(way)


def shown_deed(deed):
    """Write a DEED."""
    words = []
    for part in deed:
        words.append(shown_way(part) if isinstance(part, tuple) else part)
    return " ".join(words)


def shown_tree(tree):
    """Write a TREE."""
    rows, made = tree
    words = [str(made)]
    for row in rows:
        words.append(shown_row(row))
    return " ".join(words)


def shown_row(row):
    """Write a row of a TREE."""
    node, kind, entries = row
    if kind == "sheet":
        return str(node)
    pairs = [f"{name}={inner}" for name, inner in entries]
    return f"{node}:" + ",".join(pairs)
