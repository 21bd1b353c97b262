"""HINTS: what WAYS told, remembered for as long as nothing on them was turned."""

from drawerways.histories import look_told
from drawerways.kinds import is_way
from drawerways.paths import way_through
from drawerways.stateedits import turn_of
from drawerways.states import tree_of
from drawerways.trees import row_of

KEPT = 4


class Hints:
    """What some WAYS told, most of them at the most; those asked least lately stand first."""

    def __init__(self, *, most=KEPT):
        self._most = most
        self._kept = {}
        self._hits = 0

    def ask(self, state, way):
        """Tell what "look" of a WAY TELLS on the TREE of a STATE."""
        tree = tree_of(state)
        turn = turn_of(state)
        hint = self._kept.get(way)
        if hint is not None and still_holds(hint, tree, turn):
            self._hits += 1
        else:
            hint = hint_of(tree, turn, way)
        self.forget(way)
        self._kept[way] = hint
        if len(self._kept) > self._most:
            del self._kept[list(self._kept)[0]]
        return hint[2]

    def hits(self):
        """Tell how often a WAY was told from what was remembered."""
        return self._hits

    def knows(self, thing):
        """Tell whether a thing is a WAY that is remembered."""
        return is_way(thing) and thing in self._kept

    def forget(self, thing):
        """Forget a WAY; tell whether it was remembered."""
        if not self.knows(thing):
            return False
        del self._kept[thing]
        return True

    def __len__(self):
        """Tell how many WAYS are remembered."""
        return len(self._kept)


def hint_of(tree, turn, way):
    """Tell (turn, rows of the NODES that a WAY comes to, what "look" of it TELLS)."""
    nodes, _ = way_through(tree, way)
    return turn, tuple([row_of(tree, node) for node in nodes]), look_told(tree, way)


def still_holds(hint, tree, turn):
    """Tell whether what was remembered was so at this TURN, with NODES that are as they were."""
    return hint[0] == turn and all([row in tree[0] for row in hint[1]])
