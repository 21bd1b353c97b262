"""TREES, HANDS and SCHEDULES drawn by numbers that are the same each time."""

import random

from model import Model
from things import TREES

WORDS = ("look", "list", "make", "drop", "link", "move", "swap")

TURNING = ("make", "make", "make", "drop", "link", "move", "swap")

# DEEDS of all kinds; such as turn much; looks ahead of those that drop.
KINDS = [
    WORDS, ("drop", "move", "make", "drop", "swap", "link"), ("drop", "look", "list", "drop", "move", "link"),
]


class Drawer:
    """Draws by a number; ways are often those of a few drawers, so that DEEDS meet."""

    def __init__(self, number):
        self.draw = random.Random(number)
        self.words = KINDS[number % len(KINDS)]

    def tree(self, most=14):
        """A TREE, with NODES that live no more, too."""
        model = Model(TREES[0])
        many = self.draw.randrange(1, most)
        for _ in range(40):
            deed = self.deed(model, TURNING, ())
            if deed[0] != "make" or (len(model.kinds) < many and model.made < 30):
                model.do(deed)
        return model.tree()

    def way(self, model, favoured, least=0):
        """A WAY that is often one of the TREE, or near one."""
        ways = sorted(model.ways(self.draw.choice(sorted(model.kinds))))
        if favoured and self.draw.random() < 0.5:
            ways = favoured
        way = self.draw.choice(ways)
        while self.draw.random() < 0.3 or len(way) < least:
            way += (self.draw.choice("abcd"),)
        return way[:4]

    def free(self, model, favoured):
        """A WAY of a drawer, and a NAME that it perhaps hasn't."""
        if favoured and self.draw.random() < 0.4:
            return self.draw.choice(favoured)[:3] + (self.draw.choice("abcd"),)
        drawer = self.draw.choice(sorted(model.inside))
        return sorted(model.ways(drawer))[0][:3] + (self.draw.choice("abcdef"),)

    def deed(self, model, words, favoured):
        word = self.draw.choice(words)
        if word in ("look", "list"):
            return (word, self.way(model, favoured))
        if word == "make":
            return (word, self.free(model, favoured), self.draw.choice(("drawer", "drawer", "sheet")))
        if word == "drop":
            return (word, self.way(model, favoured, 1))
        way = self.way(model, favoured, 1)
        if word != "swap" and self.draw.random() < 0.6:
            return (word, way, self.free(model, favoured))
        return (word, way, self.way(model, favoured, 1))

    def hands(self, tree):
        """HANDS whose DEEDS are near the TREE, or near what comes of them."""
        model = Model(tree)
        void = [node for node in sorted(model.inside) if node and not model.inside[node]]
        favoured = [way for node in void[:2] for way in sorted(model.ways(node))]
        hands = []
        for _ in range(self.draw.choice((1, 2, 3, 3, 4, 4, 4))):
            deeds = []
            for _ in range(self.draw.choice((0, 1, 2, 2, 3, 3))):
                deed = self.deed(model, self.words, favoured)
                deeds.append(deed)
                if self.draw.random() < 0.3:
                    model.do(deed)
            hands.append(tuple(deeds))
        while sum(len(deeds) for deeds in hands) > 10:
            hands[self.draw.randrange(len(hands))] = ()
        return tuple(hands)

    def schedule(self, many):
        """A SCHEDULE: fair, or by long turns of one hand, or with some that hardly ever step."""
        way = self.draw.randrange(4)
        length = self.draw.randrange(1, 90)
        schedule = []
        while len(schedule) < length:
            hand = self.draw.randrange(many)
            if way == 0:
                schedule.append(hand)
            elif way == 1:
                schedule += [hand] * self.draw.randrange(1, 12)
            elif way == 2:
                schedule.append(hand if self.draw.random() < 0.1 else min(hand, self.draw.randrange(many)))
            else:
                schedule += [hand] * self.draw.choice((1, 1, 2, 5))
        return tuple(schedule[:length])


def drawn(many, first=0):
    """So many (TREE, HANDS, SCHEDULE)."""
    for number in range(first, first + many):
        drawer = Drawer(number)
        tree = drawer.tree()
        hands = drawer.hands(tree)
        yield tree, hands, drawer.schedule(len(hands))
