"""The document's words once more, in another shape than the program's: what the tests compare with."""


class Model:
    """A TREE that is changed in place: a dict of kinds, a dict of dicts of NAMES, and made."""

    def __init__(self, tree):
        rows, self.made = tree
        self.kinds = {node: kind for node, kind, _ in rows}
        self.inside = {node: dict(entries) for node, kind, entries in rows if kind == "drawer"}

    def tree(self):
        rows = []
        for node in sorted(self.kinds):
            entries = tuple(sorted(self.inside.get(node, {}).items()))
            rows.append((node, self.kinds[node], entries))
        return tuple(rows), self.made

    def walk(self, way, top=0):
        """The NODES that one comes to, and None or the miss."""
        if not way:
            return (top,), None
        if self.kinds[top] == "sheet":
            return (top,), ("sheet", 0)
        if way[0] not in self.inside[top]:
            return (top,), ("none", 0)
        nodes, miss = self.walk(way[1:], self.inside[top][way[0]])
        return (top,) + nodes, miss and (miss[0], miss[1] + 1)

    def places(self, node):
        return [(drawer, name) for drawer in self.inside for name in self.inside[drawer]
                if self.inside[drawer][name] == node]

    def ways(self, node):
        if node == 0:
            return {()}
        return {way + (name,) for drawer, name in self.places(node) for way in self.ways(drawer)}

    def above(self, drawer):
        if drawer == 0:
            return ()
        outer = self.places(drawer)[0][0]
        return (outer,) + self.above(outer)

    def is_in(self, drawer, node):
        return drawer == node or node in self.above(drawer)

    def full(self, node):
        return bool(self.inside.get(node))

    def forget(self, node):
        """A NODE without a NAME anywhere lives no more."""
        if not self.places(node):
            del self.kinds[node]
            self.inside.pop(node, None)

    def do(self, deed):
        word, way = deed[0], deed[1]
        if word in ("look", "list"):
            nodes, miss = self.walk(way)
            if miss:
                return miss
            if word == "look":
                return ("found", self.kinds[nodes[-1]], nodes[-1])
            if self.kinds[nodes[-1]] == "sheet":
                return ("sheet", len(way))
            return ("names", tuple(sorted(self.inside[nodes[-1]])))
        if word in ("make", "drop"):
            drawer, miss = self.drawer(way)
            if miss:
                return miss
            return self.make(drawer, way, deed[2]) if word == "make" else self.drop(drawer, way)
        return self.do_two(word, way, deed[2])

    def drawer(self, way):
        nodes, miss = self.walk(way[:-1])
        if not miss and self.kinds[nodes[-1]] == "sheet":
            miss = ("sheet", len(way) - 1)
        return nodes[-1], miss

    def make(self, drawer, way, kind):
        if way[-1] in self.inside[drawer]:
            return ("there",)
        node = self.made
        self.made += 1
        self.kinds[node] = kind
        if kind == "drawer":
            self.inside[node] = {}
        self.inside[drawer][way[-1]] = node
        return ("made", node)

    def drop(self, drawer, way):
        if way[-1] not in self.inside[drawer]:
            return ("none", len(way) - 1)
        node = self.inside[drawer][way[-1]]
        if self.full(node):
            return ("full",)
        del self.inside[drawer][way[-1]]
        self.forget(node)
        return ("dropped", node)

    def do_two(self, word, way, other):
        p, miss = self.drawer(way)
        if miss:
            return miss + (0,)
        q, miss = self.drawer(other)
        if miss:
            return miss + (1,)
        s = self.inside[p].get(way[-1])
        t = self.inside[q].get(other[-1])
        if s is None:
            return ("none", len(way) - 1, 0)
        if word == "swap" and t is None:
            return ("none", len(other) - 1, 1)
        return getattr(self, word)(p, way[-1], s, q, other[-1], t)

    def link(self, p, name, s, q, other, t):
        if self.kinds[s] == "drawer":
            return ("kind",)
        if t is not None:
            return ("there",)
        self.inside[q][other] = s
        return ("linked", s)

    def move(self, p, name, s, q, other, t):
        if s == t:
            return ("same",)
        if self.is_in(q, s):
            return ("inside",)
        if t is not None:
            if self.kinds[s] != self.kinds[t]:
                return ("kind",)
            if self.full(t):
                return ("full",)
        del self.inside[p][name]
        self.inside[q][other] = s
        if t is not None:
            self.forget(t)
        return ("moved", s)

    def swap(self, p, name, s, q, other, t):
        if s == t:
            return ("same",)
        if self.is_in(q, s) or self.is_in(p, t):
            return ("inside",)
        self.inside[p][name] = t
        self.inside[q][other] = s
        return ("swapped", s, t)


def modelled(tree, deed):
    """The pair (tree, told) of a DEED, by the model."""
    model = Model(tree)
    told = model.do(deed)
    return model.tree(), told


def number(thing):
    return type(thing) is int and thing >= 0


def name(thing):
    return type(thing) is str and 0 < len(thing) < 9 and set(thing) <= set("abcdefghijklmnopqrstuvwxyz")


def way(thing):
    return type(thing) is tuple and all(name(part) for part in thing)


def entries(thing):
    if type(thing) is not tuple:
        return False
    for pair in thing:
        if type(pair) is not tuple or len(pair) != 2 or not name(pair[0]) or not number(pair[1]):
            return False
    names = [pair[0] for pair in thing]
    return names == sorted(set(names))


def tree(thing):
    """Whether a thing is a TREE."""
    if type(thing) is not tuple or len(thing) != 2 or type(thing[0]) is not tuple or not number(thing[1]):
        return False
    rows = thing[0]
    for row in rows:
        if type(row) is not tuple or len(row) != 3 or not number(row[0]) or row[1] not in ("drawer", "sheet"):
            return False
        if not entries(row[2]) or (row[1] == "sheet" and row[2]):
            return False
    nodes = [row[0] for row in rows]
    if nodes != sorted(set(nodes)) or not nodes or nodes[0] != 0 or nodes[-1] >= thing[1]:
        return False
    return rows[0][1] == "drawer" and stands(rows, nodes)


def stands(rows, nodes):
    places = [(node, row[0]) for row in rows for _, node in row[2]]
    if any(node not in nodes or node == 0 for node, _ in places):
        return False
    for row in rows[1:]:
        many = len([node for node, _ in places if node == row[0]])
        if many == 0 or (row[1] == "drawer" and many > 1):
            return False
    down = {0}
    for _ in rows:
        down |= {node for node, drawer in places if drawer in down}
    return down == set(nodes)


def deed(thing):
    """Whether a thing is a DEED."""
    if type(thing) is not tuple or len(thing) not in (2, 3) or type(thing[0]) is not str or not way(thing[1]):
        return False
    word = thing[0]
    if len(thing) == 2:
        return word in ("look", "list") or (word == "drop" and thing[1] != ())
    if thing[1] == ():
        return False
    if word == "make":
        return thing[2] in ("drawer", "sheet")
    return word in ("link", "move", "swap") and way(thing[2]) and thing[2] != ()


def spans(hands, thing):
    """Whether a thing is SPANS of HANDS."""
    if type(thing) is not tuple:
        return False
    for span in thing:
        if type(span) is not tuple or len(span) != 3 or type(span[0]) is not tuple or len(span[0]) != 2:
            return False
        if not all(number(part) for part in span[0] + span[1:]) or span[1] > span[2]:
            return False
    if list(thing) != sorted(set(thing)):
        return False
    for hand in {span[0][0] for span in thing}:
        own = [span for span in thing if span[0][0] == hand]
        if hand >= len(hands) or len(own) > len(hands[hand]):
            return False
        if [span[0][1] for span in own] != list(range(len(own))):
            return False
        if any(one[2] >= other[1] for one, other in zip(own, own[1:])):
            return False
    return True
