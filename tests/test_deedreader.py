"""[21], [22]: WAYS, DEEDS, TREES read."""

import unittest

from drawerways.deedreader import read_deed, read_tree, read_way
from drawerways.deedtexts import shown_deed, shown_tree, shown_way
from drawerways.errors import NoText, TextError

from things import HUGE, TREES, deeds, just_tuples, ways

LONG = "a" * 4000

WAYS = {
    "/": (), "a": ("a",), "a/b": ("a", "b"), "abcdefgh/z/z": ("abcdefgh", "z", "z"), "look": ("look",),
}

NO_WAYS = [
    "", " ", "//", "/a", "a/", "a//b", "/a/b", "a/b/", "a b", " a", "a ", "a/ b", "A", "a/B", "a1", "1", "0",
    "abcdefghi", "a/abcdefghi", "a\n", "\na", "a\nb", "a-b", "a=1", "a,b", ".", "-", LONG, "look /", "/ /",
]

DEEDS = {
    "look /": ("look", ()),
    "look a/b": ("look", ("a", "b")),
    "list /": ("list", ()),
    "list a": ("list", ("a",)),
    "make a/b sheet": ("make", ("a", "b"), "sheet"),
    "make a drawer": ("make", ("a",), "drawer"),
    "make drawer drawer": ("make", ("drawer",), "drawer"),
    "drop a": ("drop", ("a",)),
    "link a b": ("link", ("a",), ("b",)),
    "move a b/c": ("move", ("a",), ("b", "c")),
    "swap look swap": ("swap", ("look",), ("swap",)),
}

# text: the number of the first word that can't stand, or how many there are where some lack.
NO_DEEDS = {
    "": 0, " ": 0, "  ": 0, "/": 0, "a": 0, "Look /": 0, "looks a": 0, "loo a": 0, "found a": 0, " look a": 0,
    "look\n a": 0, "look/a": 0, "tree": 0, "0": 0, "-": 0, LONG: 0, "a look": 0, "walk a b c": 0,
    "look": 1, "list": 1, "make": 1, "drop": 1, "link": 1, "move": 1, "swap": 1,
    "look ": 1, "look  a": 1, "look  ": 1, "look A": 1, "look a//b": 1, "look a/": 1, "look /a": 1, "look //": 1,
    "look abcdefghi": 1, "look a\n": 1, "look 1 2": 1, "list -": 1, "list a/B c": 1, "drop ": 1,
    "make /": 1, "make / sheet": 1, "make / x": 1, "drop /": 1, "link / a": 1, "move / a": 1, "swap / /": 1,
    "drop / a": 1, "make  a sheet": 1, "swap A /": 1,
    "make a": 2, "link a": 2, "move a": 2, "swap a": 2, "link abc/d": 2,
    "look a ": 2, "look a b": 2, "look / /": 2, "list / ": 2, "list a b c": 2, "drop a ": 2, "drop a b": 2,
    "look a  ": 2, "make a ": 2, "make a  sheet": 2, "make a b": 2, "make a Sheet": 2, "make a sheets": 2,
    "make a drawer\n": 2, "make a / x": 2, "make a sheet/drawer": 2, "link a /": 2, "move a /": 2, "swap a /": 2,
    "link a B": 2, "move a b/": 2, "swap a  b": 2, "swap a ": 2, "move a 1 b": 2,
    "make a sheet ": 3, "make a sheet drawer": 3, "make a sheet  ": 3, "link a b ": 3, "link a b c": 3,
    "move a b /": 3, "swap a b c d": 3, "swap a b  ": 3,
}

# text: the number of the first word that can't stand; a word is read by itself but for its NODE.
NO_TREES = {
    "": 0, " ": 0, "a": 0, "0:": 0, " 1 0:": 0, "-1 0:": 0, "01 0:": 0, "00 0:": 0, "+1 0:": 0, "1.0 0:": 0,
    "1\n 0:": 0, "1000000000000 0:": 0, "1234567890123": 0, "1: 0:": 0, "A 0: x": 0, "/ 0:": 0, "1_0 0:": 0,
    "1 ": 1, "1  0:": 1, "1 a": 1, "1 0:a": 1, "1 0:=1": 1, "1 0:a=": 1, "1 0:a=b": 1, "1 0:A=1": 1, "1 0::": 1,
    "1 0:,": 1, "2 0:a=1, 1": 1, "2 0:,a=1 1": 1, "3 0:a=1,,b=2 1 2": 1, "2 0:a=01 1": 1, "2 00:a=1 1": 1,
    "2 0:a=1:1 1": 1, "2 0:a=1=1 1": 1, "2 0:a==1 1": 1, "2 0:a=-1 1": 1, "2 -0:a=1 1": 1, "2 0:a=1\n 1": 1,
    "3 0:b=1,a=2 1 2": 1, "3 0:a=1,a=2 1 2": 1, "2 0:a=1,a=1 1": 1, "2 0:abcdefghi=1 1": 1, "2 0:a/b=1 1": 1,
    "2 0:a=1000000000000 1": 1, "2 1000000000000:": 1, "2 0:a=1;b=1 1": 1, "2 a:0": 1, "2 :": 1, "2 :a=1": 1,
    "2 0=a": 1, "2 0:a1": 1,
    "1 0: ": 2, "1 0:  ": 2, "1 0: 0:": 2, "1 0: 0": 2, "2 1 0:a=1": 2, "2 1 1": 2, "2 0:a=1 1:b": 2,
    "2 0:a=1  1": 2, "2 0:a=1 01": 2, "2 0:a=1 1,": 2, "2 0:a=1 -1": 2, "2 0:a=1 b": 2, "2 0:a=1 x 0:": 2,
    "9 5 3 x": 2,
    "4 0:a=1,b=3 1: 3 ": 4, "4 0:a=1,b=3 1: 1": 3, "4 0:a=1,b=3 3 1:": 3, "4 0:a=1,b=3 1: x": 3,
    "4 0:a=1,b=3 1:  3": 3, "4 0:a=1,b=3 1: 3 2": 4, "4 0:a=1,b=3 1: 3 3": 4,
}

# Right word by word, but no TREE: how many words there are.
NO_TREES_WHOLE = {
    "1": 1, "0": 1, "7": 1, "0 0:": 2, "1 0": 2, "1 1:": 2, "2 1": 2, "1 0:a=0": 2, "2 0:a=1": 2, "1 0:a=1": 2,
    "1 0:a=1 1": 3, "0 0:a=1 1": 3, "2 0: 1": 3, "2 0: 1:": 3, "2 0: 1:a=1": 3, "2 0:a=1,b=1 1:": 3, "2 0 1": 3,
    "3 1:a=2 2": 3, "2 0:a=1 2": 3, "999999999999 0:a=999999999999 999999999999": 3,
    "3 0: 1:a=2 2:a=1": 4, "3 0:a=1,b=2 1:a=2 2:": 4, "3 0:a=1,b=2 1: 2:": None, "4 0:a=1,b=3 1: 3": None,
    "3 0:a=1,b=3 1: 3": 4, "4 0:a=1,b=3 1: 2 3": 5, "5 0: 1:a=2 2:a=3 3:a=1,b=4 4": 6,
}


class Reader(unittest.TestCase):
    def refused(self, call, text, word):
        for line in (0, 1, 7, HUGE):
            with self.assertRaises(NoText) as caught:
                call(text, line=line)
            self.assertIs(type(caught.exception), NoText)
            self.assertIsInstance(caught.exception, TextError)
            self.assertEqual((caught.exception.line, caught.exception.word), (line, word), text)
            self.assertIs(type(caught.exception.word), int)
        with self.assertRaises(NoText) as caught:
            call(text)
        self.assertEqual((caught.exception.line, caught.exception.word), (0, word), text)

    def told(self, call, text, thing):
        for found in (call(text), call(text, line=5), call(line=HUGE, text=text)):
            self.assertEqual(found, thing)
            self.assertTrue(just_tuples(found))

    def test_ways(self):
        for text, way in WAYS.items():
            self.told(read_way, text, way)

    def test_no_ways(self):
        for text in NO_WAYS:
            self.refused(read_way, text, 0)

    def test_deeds(self):
        for text, deed in DEEDS.items():
            self.told(read_deed, text, deed)

    def test_no_deeds(self):
        for text, word in NO_DEEDS.items():
            self.refused(read_deed, text, word)

    def test_trees(self):
        self.told(read_tree, "1 0:", (((0, "drawer", ()),), 1))
        self.told(read_tree, "999999999999 0:", (((0, "drawer", ()),), 999999999999))
        self.told(
            read_tree, "4 0:a=1,b=3 1: 3",
            (((0, "drawer", (("a", 1), ("b", 3))), (1, "drawer", ()), (3, "sheet", ())), 4),
        )
        self.told(
            read_tree, "999999999999 0:a=123456789012 123456789012",
            (((0, "drawer", (("a", 123456789012),)), (123456789012, "sheet", ())), 999999999999),
        )

    def test_no_trees(self):
        for text, word in NO_TREES.items():
            self.refused(read_tree, text, word)

    def test_right_words_but_no_tree(self):
        for text, many in NO_TREES_WHOLE.items():
            if many is None:
                self.assertEqual(shown_tree(read_tree(text)), text)
            else:
                self.refused(read_tree, text, many)

    def test_each_sign_ahead_behind_or_between(self):
        for sign in "\n !+-.0_AZ`{:=,":
            for text in ("look a", "make a sheet", "swap a b"):
                for at in range(len(text) + 1):
                    newer = text[:at] + sign + text[at:]
                    try:
                        self.assertEqual(shown_deed(read_deed(newer)), newer)
                        self.fail(newer)
                    except NoText as refused:
                        due = text[:at].count(" ")
                        if sign != " ":
                            self.assertEqual(refused.word, due, newer)

    def test_written_is_read_as_the_same(self):
        for way in ways("ab", 4):
            self.assertEqual(read_way(shown_way(way)), way)
        for deed in deeds("ab", 2) + list(DEEDS.values()):
            self.assertEqual(read_deed(shown_deed(deed)), deed)
        for tree in TREES:
            self.assertEqual(read_tree(shown_tree(tree)), tree)

    def test_read_is_written_as_the_same(self):
        for texts, read, shown in ((WAYS, read_way, shown_way), (DEEDS, read_deed, shown_deed)):
            for text in texts:
                self.assertEqual(shown(read(text)), text)
        for text in ("1 0:", "4 0:a=1,b=3 1: 3", "60 0:a=7 7:b=9 9:", "999999999999 0:aa=10,ab=10 10"):
            self.assertEqual(shown_tree(read_tree(text)), text)

    def test_numbers_beyond_twelve_figures_are_written_but_not_read(self):
        tree = (((0, "drawer", ()),), 10 ** 12)
        self.refused(read_tree, shown_tree(tree), 0)
        tree = (((0, "drawer", (("a", 1), ("b", 10 ** 12))), (1, "sheet", ()), (10 ** 12, "sheet", ())), 10 ** 12 + 1)
        self.refused(read_tree, "7" + shown_tree(tree)[13:], 1)
        tree = (((0, "drawer", (("a", 1),)), (1, "sheet", ())), 10 ** 12 - 1)
        self.assertEqual(read_tree(shown_tree(tree)), tree)

    def test_line_by_its_name_alone(self):
        for call, text in ((read_way, "a"), (read_deed, "look a"), (read_tree, "1 0:")):
            with self.assertRaises(TypeError):
                call(text, 0)

    def test_line_is_the_very_thing(self):
        for call in (read_way, read_deed, read_tree):
            with self.assertRaises(NoText) as caught:
                call("", line=HUGE)
            self.assertIs(caught.exception.line, HUGE)


if __name__ == "__main__":
    unittest.main()
