"""[15] to [17] (and [4]): DEEDS, and what comes of doing them."""

import copy
import unittest

from drawerways.deeds import done, done_all, is_deed
from drawerways.paths import way_through
from drawerways.trees import EMPTY, is_tree, kind_of

import model
from things import (
    BESIDE, CHAIN, DEEP, HUGE, NEVER, RIGHT_NAMES, SHEETS, SMALL, TEXTS_NEAR_NAMES, TREES, changed, deeds, deep,
    just_tuples, spoiled,
)

TURN = ("made", "dropped", "linked", "moved", "swapped")

RIGHT = [
    ("look", ()), ("look", ("a",)), ("look", ("a", "b", "c", "d", "e")), ("list", ()), ("list", ("a", "b")),
    ("make", ("a",), "drawer"), ("make", ("a", "b"), "sheet"), ("drop", ("a",)), ("drop", ("a", "b")),
    ("link", ("a",), ("b",)), ("link", ("a", "b"), ("a", "b")), ("move", ("a",), ("b", "c")),
    ("swap", ("a", "b"), ("c",)),
]

WRONG = [
    (), ("look",), ("list",), ("make",), ("drop",), ("link",), ("move",), ("swap",),
    ("look", (), ()), ("list", ("a",), ("b",)), ("look", ("a",), "drawer"), ("look", ("a",), None),
    ("make", ("a",)), ("make", (), "drawer"), ("make", (), "sheet"), ("make", ("a",), "file"),
    ("make", ("a",), "drawer", ()), ("make", ("a",), ("drawer",)), ("make", "drawer", ("a",)), ("make", ("a",), ("b",)),
    ("make", ("a",), ["sheet"]), ("make", ("a",), "Drawer"), ("make", ("a",), "sheets"), ("make", ("a",), "dra"),
    ("drop", ()), ("drop", ("a",), ("b",)), ("drop", ("a",), "drawer"),
    ("link", (), ("a",)), ("link", ("a",), ()), ("link", (), ()), ("link", ("a",)), ("link", ("a",), "sheet"),
    ("link", ("a",), ("b",), ("c",)),
    ("move", (), ("a",)), ("move", ("a",), ()), ("move", ("a",)), ("move", ("a",), ("b",), 0),
    ("swap", (), ("a",)), ("swap", ("a",), ()), ("swap", ("a",)), ("swap", ("a",), ("b",), ("c",)),
    ("look", "a"), ("look", "/"), ("look", ""), ("look", None), ("look", 0), ("look", ["a"]), ("look", ("A",)),
    ("Look", ()), ("looks", ()), ("loo", ()), ("", ()), ("walk", ()), (None, ()), (0, ()), (True, ()), ((), ()),
    (("look",), ()), (["look"], ()), ([], ()), (["look"],), ("look ", ()), ("found", "drawer", 0),
    ["look", ()], ["make", ("a",), "drawer"], "look", "look /", "make a drawer", None, True, 0, 1, HUGE, ("a",),
    ("a", "b"), (("a",), "look"), ((), "look"),
]


class IsDeed(unittest.TestCase):
    def test_deeds(self):
        for deed in RIGHT + deeds("ab", 2):
            self.assertIs(is_deed(deed), True, deed)

    def test_no_deeds(self):
        for thing in WRONG:
            self.assertIs(is_deed(thing), False, thing)

    def test_no_bounds(self):
        long = ("abcdefgh",) * 2000
        for deed in (("look", long), ("make", long, "sheet"), ("swap", long, long)):
            self.assertIs(is_deed(deed), True)

    def test_names(self):
        for name in RIGHT_NAMES:
            self.assertIs(is_deed(("make", (name,), "sheet")), True)
            self.assertIs(is_deed(("move", ("a", name), (name, "a"))), True)
        for text in TEXTS_NEAR_NAMES:
            for way in ((text,), ("a", text)):
                for deed in (("look", way), ("drop", way), ("make", way, "sheet"), ("link", ("a",), way)):
                    self.assertIs(is_deed(deed), False, deed)

    def test_a_thing_in_the_place_of_each_part(self):
        for deed in RIGHT:
            for thing in spoiled(deed):
                self.assertIs(is_deed(thing), False, thing)

    def test_small_changes(self):
        seen = set()
        for deed in RIGHT:
            for thing in changed(deed):
                right = model.deed(thing)
                seen.add(right)
                self.assertIs(is_deed(thing), right, thing)
        self.assertEqual(seen, {True, False})

    def test_any_thing(self):
        for thing in NEVER + [deep(40, "look"), ("look", deep(39)), ("make", ("a",), deep(39)), (deep(39), ())]:
            self.assertIs(is_deed(thing), False, thing)

    def test_by_name_and_nothing_is_changed(self):
        self.assertIs(is_deed(thing=("look", ())), True)
        for thing in WRONG:
            kept = copy.deepcopy(thing)
            is_deed(thing)
            self.assertEqual(repr(thing), repr(kept))


# (tree, deed, told): each word that a DEED TELLS, in the order in which [4] asks.
REFUSED = [
    (SMALL, ("look", ()), ("found", "drawer", 0)),
    (SMALL, ("look", ("a",)), ("found", "drawer", 1)),
    (SMALL, ("look", ("b",)), ("found", "sheet", 3)),
    (SMALL, ("look", ("c",)), ("none", 0)),
    (SMALL, ("look", ("a", "c")), ("none", 1)),
    (SMALL, ("look", ("b", "c")), ("sheet", 1)),
    (SMALL, ("look", ("b", "c", "d")), ("sheet", 1)),
    (SMALL, ("list", ()), ("names", ("a", "b"))),
    (SMALL, ("list", ("a",)), ("names", ())),
    (SMALL, ("list", ("b",)), ("sheet", 1)),
    (SMALL, ("list", ("b", "c")), ("sheet", 1)),
    (DEEP, ("list", ("a", "a", "b")), ("sheet", 3)),
    (SMALL, ("list", ("c",)), ("none", 0)),
    (SMALL, ("list", ("a", "c", "d")), ("none", 1)),
    (DEEP, ("list", ("a", "a")), ("names", ("a", "b", "c"))),
    (SMALL, ("make", ("a",), "drawer"), ("there",)),
    (SMALL, ("make", ("a",), "sheet"), ("there",)),
    (SMALL, ("make", ("b",), "drawer"), ("there",)),
    (SMALL, ("make", ("c", "d"), "drawer"), ("none", 0)),
    (SMALL, ("make", ("a", "c", "d"), "drawer"), ("none", 1)),
    (SMALL, ("make", ("b", "c"), "drawer"), ("sheet", 1)),
    (SMALL, ("make", ("b", "c", "d"), "sheet"), ("sheet", 1)),
    (DEEP, ("make", ("a", "a", "b", "a"), "sheet"), ("sheet", 3)),
    (SMALL, ("drop", ("c",)), ("none", 0)),
    (SMALL, ("drop", ("a", "c")), ("none", 1)),
    (SMALL, ("drop", ("c", "d")), ("none", 0)),
    (SMALL, ("drop", ("b", "c")), ("sheet", 1)),
    (SMALL, ("drop", ("b", "c", "d")), ("sheet", 1)),
    (DEEP, ("drop", ("a",)), ("full",)),
    (DEEP, ("drop", ("a", "a")), ("full",)),
    # The DRAWER of the first WAY, then that of the second, then the first NAME, then the second.
    (SMALL, ("link", ("c", "a"), ("d", "a")), ("none", 0, 0)),
    (SMALL, ("move", ("a", "c", "a"), ("b", "a")), ("none", 1, 0)),
    (SMALL, ("swap", ("b", "a"), ("c", "a")), ("sheet", 1, 0)),
    (SMALL, ("link", ("b", "a", "a"), ("a",)), ("sheet", 1, 0)),
    (SMALL, ("link", ("c",), ("d", "a")), ("none", 0, 1)),
    (SMALL, ("move", ("c",), ("b", "a")), ("sheet", 1, 1)),
    (SMALL, ("swap", ("c",), ("b", "a", "a")), ("sheet", 1, 1)),
    (SMALL, ("swap", ("a",), ("a", "c", "a")), ("none", 1, 1)),
    (SMALL, ("link", ("c",), ("b",)), ("none", 0, 0)),
    (SMALL, ("move", ("a", "c"), ("b",)), ("none", 1, 0)),
    (SMALL, ("swap", ("c",), ("d",)), ("none", 0, 0)),
    (SMALL, ("swap", ("c",), ("a",)), ("none", 0, 0)),
    (SMALL, ("swap", ("a",), ("d",)), ("none", 0, 1)),
    (SMALL, ("swap", ("b",), ("a", "d")), ("none", 1, 1)),
    (SMALL, ("swap", ("a",), ("a", "d")), ("none", 1, 1)),
    # link: of a drawer, then a NAME that is there.
    (SMALL, ("link", ("a",), ("b",)), ("kind",)),
    (SMALL, ("link", ("a",), ("a",)), ("kind",)),
    (SMALL, ("link", ("a",), ("c",)), ("kind",)),
    (SMALL, ("link", ("a",), ("a", "c")), ("kind",)),
    (SMALL, ("link", ("b",), ("a",)), ("there",)),
    (SMALL, ("link", ("b",), ("b",)), ("there",)),
    (SHEETS, ("link", ("a",), ("b",)), ("there",)),
    # move: the same, inside, unlike kinds, a full one.
    (SMALL, ("move", ("a",), ("a",)), ("same",)),
    (SMALL, ("move", ("b",), ("b",)), ("same",)),
    (SHEETS, ("move", ("a",), ("c",)), ("same",)),
    (DEEP, ("move", ("c",), ("a", "b")), ("same",)),
    (SMALL, ("move", ("a",), ("a", "c")), ("inside",)),
    (DEEP, ("move", ("a",), ("a", "b")), ("inside",)),
    (DEEP, ("move", ("a",), ("a", "d")), ("inside",)),
    (DEEP, ("move", ("a",), ("a", "a", "a", "d")), ("inside",)),
    (DEEP, ("move", ("a",), ("a", "a", "b")), ("inside",)),
    (SMALL, ("move", ("a",), ("b",)), ("kind",)),
    (SMALL, ("move", ("b",), ("a",)), ("kind",)),
    (DEEP, ("move", ("c",), ("a",)), ("kind",)),
    (DEEP, ("move", ("a",), ("c",)), ("kind",)),
    (DEEP, ("move", ("b",), ("a",)), ("full",)),
    (DEEP, ("move", ("a", "a"), ("a",)), ("full",)),
    (BESIDE, ("move", ("a",), ("b",)), ("full",)),
    # swap: the same, inside on either side.
    (SMALL, ("swap", ("a",), ("a",)), ("same",)),
    (SHEETS, ("swap", ("b",), ("c",)), ("same",)),
    (DEEP, ("swap", ("c",), ("a", "a", "c")), ("same",)),
    (DEEP, ("swap", ("a",), ("a", "a")), ("inside",)),
    (DEEP, ("swap", ("a", "a"), ("a",)), ("inside",)),
    (DEEP, ("swap", ("a", "a", "a"), ("a",)), ("inside",)),
    (DEEP, ("swap", ("a",), ("a", "a", "c")), ("inside",)),
    (DEEP, ("swap", ("a", "a", "b"), ("a",)), ("inside",)),
]

# (tree, deed, tree behind it, told).
TURNED = [
    (EMPTY, ("make", ("a",), "drawer"), (((0, "drawer", (("a", 1),)), (1, "drawer", ())), 2), ("made", 1)),
    (EMPTY, ("make", ("a",), "sheet"), (((0, "drawer", (("a", 1),)), (1, "sheet", ())), 2), ("made", 1)),
    (
        (EMPTY[0], 7), ("make", ("drawer",), "sheet"),
        (((0, "drawer", (("drawer", 7),)), (7, "sheet", ())), 8), ("made", 7),
    ),
    (
        SMALL, ("make", ("a", "b"), "sheet"),
        (((0, "drawer", (("a", 1), ("b", 3))), (1, "drawer", (("b", 4),)), (3, "sheet", ()), (4, "sheet", ())), 5),
        ("made", 4),
    ),
    (
        (((0, "drawer", (("b", 1),)), (1, "sheet", ())), 2), ("make", ("a",), "drawer"),
        (((0, "drawer", (("a", 2), ("b", 1))), (1, "sheet", ()), (2, "drawer", ())), 3), ("made", 2),
    ),
    (SMALL, ("drop", ("a",)), (((0, "drawer", (("b", 3),)), (3, "sheet", ())), 4), ("dropped", 1)),
    (SMALL, ("drop", ("b",)), (((0, "drawer", (("a", 1),)), (1, "drawer", ())), 4), ("dropped", 3)),
    (SHEETS, ("drop", ("b",)), (((0, "drawer", (("a", 1), ("c", 1))), (1, "sheet", ())), 2), ("dropped", 1)),
    (
        SMALL, ("link", ("b",), ("a", "c")),
        (((0, "drawer", (("a", 1), ("b", 3))), (1, "drawer", (("c", 3),)), (3, "sheet", ())), 4), ("linked", 3),
    ),
    (
        SMALL, ("link", ("b",), ("aa",)),
        (((0, "drawer", (("a", 1), ("aa", 3), ("b", 3))), (1, "drawer", ()), (3, "sheet", ())), 4), ("linked", 3),
    ),
    (
        SMALL, ("move", ("b",), ("a", "b")),
        (((0, "drawer", (("a", 1),)), (1, "drawer", (("b", 3),)), (3, "sheet", ())), 4), ("moved", 3),
    ),
    (
        SMALL, ("move", ("a",), ("c",)),
        (((0, "drawer", (("b", 3), ("c", 1))), (1, "drawer", ()), (3, "sheet", ())), 4), ("moved", 1),
    ),
    # A drawer over a void one, a sheet over one that has no other NAME, a sheet over one that has.
    (
        BESIDE, ("move", ("a", "a"), ("b", "b")),
        (
            ((0, "drawer", (("a", 7), ("b", 2))), (2, "drawer", (("a", 3), ("b", 8))), (3, "sheet", ()),
             (7, "drawer", (("c", 3),)), (8, "drawer", ())),
            10,
        ),
        ("moved", 8),
    ),
    (
        (((0, "drawer", (("a", 1), ("b", 2))), (1, "sheet", ()), (2, "sheet", ())), 3), ("move", ("a",), ("b",)),
        (((0, "drawer", (("b", 1),)), (1, "sheet", ())), 3), ("moved", 1),
    ),
    (
        (((0, "drawer", (("a", 1), ("b", 2), ("c", 2))), (1, "sheet", ()), (2, "sheet", ())), 3),
        ("move", ("a",), ("b",)),
        (((0, "drawer", (("b", 1), ("c", 2))), (1, "sheet", ()), (2, "sheet", ())), 3), ("moved", 1),
    ),
    # A full drawer, with all that is in it, over a void one.
    (
        DEEP, ("move", ("a", "a"), ("b",)),
        (
            ((0, "drawer", (("a", 1), ("b", 3), ("c", 5))), (1, "drawer", (("b", 5),)),
             (3, "drawer", (("a", 4), ("b", 6), ("c", 5))), (4, "drawer", ()), (5, "sheet", ()), (6, "sheet", ())),
            9,
        ),
        ("moved", 3),
    ),
    (
        SMALL, ("swap", ("a",), ("b",)),
        (((0, "drawer", (("a", 3), ("b", 1))), (1, "drawer", ()), (3, "sheet", ())), 4), ("swapped", 1, 3),
    ),
    (
        SMALL, ("swap", ("b",), ("a",)),
        (((0, "drawer", (("a", 3), ("b", 1))), (1, "drawer", ()), (3, "sheet", ())), 4), ("swapped", 3, 1),
    ),
    (
        BESIDE, ("swap", ("a", "a"), ("b", "a")),
        (
            ((0, "drawer", (("a", 7), ("b", 2))), (2, "drawer", (("a", 8), ("b", 4))), (3, "sheet", ()),
             (4, "drawer", ()), (7, "drawer", (("a", 3), ("c", 3))), (8, "drawer", ())),
            10,
        ),
        ("swapped", 8, 3),
    ),
    (
        CHAIN, ("swap", ("a", "a"), ("b",)),
        (
            ((0, "drawer", (("a", 4), ("b", 2))), (1, "drawer", (("a", 6),)), (2, "drawer", (("a", 1),)),
             (4, "drawer", (("a", 5), ("b", 5))), (5, "sheet", ()), (6, "drawer", ())),
            7,
        ),
        ("swapped", 2, 5),
    ),
]


class Done(unittest.TestCase):
    def test_told(self):
        for tree, deed, told in REFUSED:
            self.assertEqual(done(tree, deed), (tree, told), deed)

    def test_turned(self):
        for tree, deed, newer, told in TURNED:
            self.assertEqual(done(tree, deed), (newer, told), deed)

    def test_as_the_document_says(self):
        words = set()
        for tree in TREES:
            for deed in deeds("abc", 3 if tree == DEEP else 2):
                found = done(tree, deed)
                self.assertEqual(found, model.modelled(tree, deed), (tree, deed))
                self.assertTrue(just_tuples(found))
                words.add((deed[0], found[1][0]))
        # look 3, list 3, make 4, drop 4, link 5, move 7, swap 5: each word that [4] has.
        self.assertEqual(len(words), 31)

    def test_what_comes_is_a_tree(self):
        for tree in TREES:
            kinds = {node: kind for node, kind, _ in tree[0]}
            for deed in deeds("abc", 2):
                newer, told = done(tree, deed)
                self.assertTrue(is_tree(newer), (tree, deed))
                self.assertEqual(newer[1], tree[1] + (told[0] == "made"))
                if told[0] not in TURN:
                    self.assertEqual(newer, tree)
                if told[0] == "made":
                    kinds[tree[1]] = deed[2]
                    self.assertEqual(told, ("made", tree[1]))
                for node, kind, _ in newer[0]:
                    self.assertEqual(kinds[node], kind)
                    self.assertTrue(node in [row[0] for row in tree[0]] or told == ("made", node))

    def test_a_look_is_told_by_its_way(self):
        for tree in TREES:
            for deed in deeds("abc", 3):
                if deed[0] == "look":
                    nodes, miss = way_through(tree, deed[1])
                    told = miss or ("found", kind_of(tree, nodes[-1]), nodes[-1])
                    self.assertEqual(done(tree, deed), (tree, told))

    def test_by_name(self):
        self.assertEqual(done(deed=("look", ()), tree=EMPTY), (EMPTY, ("found", "drawer", 0)))
        self.assertEqual(done_all(tree=EMPTY), (EMPTY, ()))
        self.assertEqual(done_all(deeds=(("look", ()),), tree=EMPTY), (EMPTY, (("found", "drawer", 0),)))


class DoneAll(unittest.TestCase):
    def test_none(self):
        for tree in TREES:
            self.assertEqual(done_all(tree), (tree, ()))
            self.assertEqual(done_all(tree, ()), (tree, ()))

    def test_one_behind_another(self):
        row = (
            ("make", ("a",), "drawer"), ("make", ("a", "b"), "sheet"), ("link", ("a", "b"), ("c",)),
            ("drop", ("a", "b")), ("list", ()), ("make", ("a", "a"), "drawer"), ("drop", ("a",)),
            ("move", ("a", "a"), ("b",)), ("drop", ("a",)), ("look", ("a",)), ("drop", ("a",)),
            ("make", ("a",), "sheet"), ("swap", ("b",), ("c",)), ("list", ()),
        )
        tree, told = done_all(EMPTY, row)
        self.assertEqual(told, (
            ("made", 1), ("made", 2), ("linked", 2), ("dropped", 2), ("names", ("a", "c")), ("made", 3), ("full",),
            ("moved", 3), ("dropped", 1), ("none", 0), ("none", 0), ("made", 4), ("swapped", 3, 2),
            ("names", ("a", "b", "c")),
        ))
        self.assertEqual(tree, (
            ((0, "drawer", (("a", 4), ("b", 2), ("c", 3))), (2, "sheet", ()), (3, "drawer", ()), (4, "sheet", ())), 5,
        ))

    def test_as_by_done(self):
        every = deeds("ab", 2)
        for start in range(0, len(every), 7):
            row = tuple(every[start::11][:9])
            for tree in TREES:
                at, answers = tree, []
                for deed in row:
                    at, told = done(at, deed)
                    answers.append(told)
                found = done_all(tree, row)
                self.assertEqual(found, (at, tuple(answers)))
                self.assertTrue(just_tuples(found))

    def test_nothing_is_changed(self):
        for tree in TREES:
            kept = copy.deepcopy(tree)
            for deed in RIGHT:
                done(tree, deed)
            done_all(tree, tuple(RIGHT))
            self.assertEqual(tree, kept)


if __name__ == "__main__":
    unittest.main()
