"""Hands in the midst of their DEEDS once more: each one's life is a script that stops behind each STEP."""

from model import Model


class World:
    """TREE, HANDS, locks, KEY, TURN and JOURNAL, changed in place by one hand at a time."""

    def __init__(self, tree, hands):
        self.model = Model(tree)
        self.hands = hands
        self.journal = self.key = None
        self.turn = 0
        self.held = {}
        self.rows = [None] * len(hands)
        for hand in range(len(hands)):
            self.anew(hand, 0)
        self.lives = [self.life(hand) for hand in range(len(hands))]

    def step(self, hand):
        return next(self.lives[hand])

    def state(self):
        nodes, made = self.model.tree()
        locks = tuple(sorted(self.held.items()))
        return self.hands, (nodes, made, self.journal), locks, self.key, self.turn, tuple(self.rows)

    def anew(self, hand, k):
        self.rows[hand] = (k, "new" if k < len(self.hands[hand]) else "through", None, (), 0, None)

    def at(self, hand, phase, due=None, **more):
        """Let the hand stand at a phase."""
        k, _, noted, spots, reads, _ = self.rows[hand]
        noted, spots, reads = more.get("noted", noted), more.get("spots", spots), more.get("reads", reads)
        self.rows[hand] = (k, phase, noted, tuple(spots), reads, due)

    def free(self, hand):
        self.held = {node: holder for node, holder in self.held.items() if holder != hand}

    def life(self, hand):
        for k, deed in enumerate(self.hands[hand]):
            through = False
            while not through:
                event = yield from self.attempt(hand, k, deed)
                through = type(event) is tuple
                self.free(hand)
                if through and self.key == hand:
                    self.key = None
                self.anew(hand, k + 1 if through else k)
                yield (hand, "told", k, event) if through else (hand, "again", k, event)
        while True:
            yield (hand, "rests")

    def attempt(self, hand, k, deed):
        """One attempt; what it TELLS is returned, a tuple, or why it goes AGAIN, a text."""
        two = len(deed) == 3 and deed[0] != "make"
        while two and self.key != hand:
            if self.key is not None:
                yield (hand, "waits", "key", self.key)
            else:
                self.key = hand
                yield (hand, "key")
        while self.turn % 2:
            yield (hand, "waits", "turn", self.key)
        spots, told, event = yield from self.walk(hand, deed, (hand, "begin", k, self.turn))
        if told:
            self.at(hand, "last", told)
            yield event
            return self.at_last(hand, deed, spots, told, two)
        self.at(hand, "locks")
        yield event
        yield from self.lock_all(hand, list(spots), "looks" if two else "commits")
        if two:
            return (yield from self.two(hand, deed, *spots))
        return (yield from self.one(hand, deed, spots[0]))

    def walk(self, hand, deed, event):
        """Walk the WAYS; told are the spots, what was seen at the end (None: locks are due), and the last EVENT."""
        word, ways = deed[0], [part for part in deed[1:] if type(part) is tuple]
        spots, noted = [], self.turn
        for number, way in enumerate(ways):
            behind = (number,) if len(ways) == 2 else ()
            names = way if word in ("look", "list") else way[:-1]
            spots.append(0)
            self.at(hand, "walks", noted=noted, spots=spots, reads=0)
            for place, name in enumerate(names):
                if self.model.kinds[spots[-1]] == "sheet":
                    return spots, ("sheet", place) + behind, event
                self.at(hand, "walks")
                yield event
                node = self.model.inside.get(spots[-1], {}).get(name)
                event = (hand, "walk", place, node)
                if node is None:
                    return spots, ("none", place) + behind, event
                spots[-1] = node
                self.at(hand, "walks", spots=spots, reads=place + 1)
            kind = self.model.kinds[spots[-1]]
            if word == "look":
                return spots, ("found", kind, spots[-1]), event
            if kind == "sheet":
                return spots, ("sheet", len(names)) + behind, event
        return spots, None, event

    def at_last(self, hand, deed, spots, told, two):
        if not two:
            return told if self.turn == self.rows[hand][2] else "turn"
        if told[0] == "sheet" and told[2] == 0:
            return told
        if spots[0] not in self.model.kinds:
            return "dead"
        if told[0] == "none" and spots[-1] not in self.model.kinds:
            return "dead"
        return told

    def lock(self, hand, node, phase, due=None):
        while self.held.get(node, hand) != hand:
            yield (hand, "waits", node, self.held[node])
        self.held[node] = hand
        self.at(hand, phase, due)
        yield (hand, "locks", node)

    def first_of(self, spots):
        """Which of two spots is due first, as the TREE is now."""
        one, other = spots
        for inner, outer in ((one, other), (other, one)):
            if inner in self.model.kinds and outer in self.model.above(inner):
                return outer
        return min(one, other)

    def lock_all(self, hand, spots, phase):
        if len(spots) == 2 and spots[0] == spots[1]:
            spots = spots[:1]
        if len(spots) == 2:
            # Which one is first is asked anew at each STEP until it is held.
            while self.held.get(self.first_of(spots), hand) != hand:
                node = self.first_of(spots)
                yield (hand, "waits", node, self.held[node])
            node = self.first_of(spots)
            yield from self.lock(hand, node, "locks")
            spots.remove(node)
        yield from self.lock(hand, spots[0], phase)

    def one(self, hand, deed, spot):
        noted = self.rows[hand][2]
        if self.turn != noted:
            return "turn"
        if spot not in self.model.kinds:
            return "dead"
        inside = self.model.inside[spot]
        if deed[0] == "list":
            return ("names", tuple(sorted(inside)))
        if deed[0] == "make":
            return self.model.make(spot, deed[1], deed[2])
        node = inside.get(deed[1][-1])
        if self.model.kinds.get(node) == "drawer":
            self.at(hand, "lower", node)
            yield (hand, "finds", node, None)
            yield from self.lock(hand, node, "empties", node)
            if self.turn != noted:
                return "turn"
        return self.model.drop(spot, deed[1])

    def two(self, hand, deed, p, q):
        model, (word, way, other) = self.model, deed
        if p not in model.kinds or q not in model.kinds:
            return "dead"
        name, last = way[-1], other[-1]
        s, t = model.inside[p].get(name), model.inside[q].get(last)
        told = self.refused(word, way, other, (p, s, q, t))
        if told:
            return told
        if word == "link":
            return model.link(p, name, s, q, last, t)
        journal = (word, p, name, q, last, s, t)
        third = word == "move" and model.kinds.get(t) == "drawer"
        self.at(hand, "third" if third else "writes", journal)
        yield (hand, "finds", s, t)
        if third:
            yield from self.lock(hand, t, "checks", journal)
            if model.full(t):
                return ("full",)
            self.at(hand, "writes", journal)
            yield (hand, "empty", t)
        self.journal = journal
        self.at(hand, "turns", journal)
        yield (hand, "journal", journal)
        yield from self.moved(hand, journal)
        self.journal = None
        self.turn += 1
        return ("moved", s) if word == "move" else ("swapped", s, t)

    def refused(self, word, way, other, places):
        """What "looks" refuses, None where nothing does."""
        model, (p, s, q, t) = self.model, places
        if s is None:
            return ("none", len(way) - 1, 0)
        if word == "swap" and t is None:
            return ("none", len(other) - 1, 1)
        if word == "link":
            return ("kind",) if model.kinds[s] == "drawer" else ("there",) if t is not None else None
        if s == t:
            return ("same",)
        if model.is_in(q, s) or (word == "swap" and model.is_in(p, t)):
            return ("inside",)
        if word == "move" and t is not None:
            if model.kinds[s] != model.kinds[t]:
                return ("kind",)
            if model.is_in(p, t):
                return ("full",)
        return None

    def moved(self, hand, journal):
        word, p, name, q, last, s, t = journal
        self.turn += 1
        self.at(hand, "outs", journal)
        yield (hand, "odd", self.turn)
        del self.model.inside[p][name]
        if word == "swap":
            self.model.inside[p][name] = t
        self.at(hand, "ins", journal)
        yield (hand, "out", p, name)
        self.model.inside[q][last] = s
        if word == "move" and t is not None:
            self.model.forget(t)
        self.at(hand, "ends", journal)
        yield (hand, "in", q, last)
