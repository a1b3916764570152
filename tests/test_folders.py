"""Points 3 and 5: names, Folders, lots and their order."""

import itertools
import unittest

from helping import Case, any_objects

from blockshares.errors import BadFolders
from blockshares.folders import Folders

ALPHABET = "abcdefghijklmnopqrstuvwxyz"


def lots_by_definition(names, chain):
    """All lots, found among all subsets and put in order by their definition."""
    found = []
    for many in range(1, len(names) + 1):
        for places in itertools.combinations(range(len(names)), many):
            if not chain or places[-1] - places[0] == many - 1:
                found.append((many, places))
    return [tuple(names[at] for at in places) for many, places in sorted(found)]


class MakingFolders(Case):

    def test_names_and_chain(self):
        for names in (["a"], ("b", "a"), ["docs", "abcdefgh", "z", "zz", "q"]):
            folders = Folders(names)
            self.assertEqual(folders.names, tuple(names))
            self.assertIs(folders.names.__class__, tuple)
            self.assertIs(folders.chain, False)
            self.assertIs(Folders(names, chain=True).chain, True)
            self.assertIs(Folders(names=names, chain=False).chain, False)

    def test_chain_is_told_by_name_alone(self):
        with self.assertRaises(TypeError):
            Folders(["a"], True)

    def test_most_folders(self):
        self.assertEqual(len(Folders(list(ALPHABET[:5]))), 5)
        self.assertEqual(len(Folders(list(ALPHABET[:12]), chain=True)), 12)

    def test_the_sixth_and_in_a_chain_the_thirteenth_is_too_much(self):
        for many in (6, 7, 26):
            self.refuses(BadFolders, {"index": 5}, Folders, list(ALPHABET[:many]))
            self.refuses(BadFolders, {"index": 5}, Folders, tuple(ALPHABET[:many]), chain=False)
        for many in (13, 14, 26):
            self.refuses(BadFolders, {"index": 12}, Folders, list(ALPHABET[:many]), chain=True)

    def test_no_list_and_an_empty_one(self):
        for thing in any_objects() + [0, 7, "a", "ab", [], ()]:
            if not isinstance(thing, (list, tuple)) or len(thing) == 0:
                with self.subTest(thing=thing):
                    self.refuses(BadFolders, {"index": 0}, Folders, thing)
                    self.refuses(BadFolders, {"index": 0}, Folders, thing, chain=True)

    def test_what_is_no_name(self):
        for thing in any_objects() + [0, 1, ["b"], ("a",)]:
            for ahead in ([], ["a"], ["a", "b", "c", "d"]):
                with self.subTest(thing=thing, ahead=ahead):
                    self.refuses(BadFolders, {"index": len(ahead)}, Folders, ahead + [thing, "x"])
                    self.refuses(BadFolders, {"index": len(ahead)}, Folders, tuple(ahead + [thing]), chain=True)

    def test_letters_of_names(self):
        for sign in "`{@[AZ09_- +:\n\u00e9\u0131\u00aa":
            self.refuses(BadFolders, {"index": 1}, Folders, ["a", "b" + sign])
            self.refuses(BadFolders, {"index": 1}, Folders, ["a", sign])
        for letter in ALPHABET:
            self.assertEqual(Folders([letter, "x" + letter * 7]).names[0], letter)
        self.refuses(BadFolders, {"index": 0}, Folders, ["abcdefghi"])

    def test_what_stood_before(self):
        self.refuses(BadFolders, {"index": 1}, Folders, ["a", "a"])
        self.refuses(BadFolders, {"index": 3}, Folders, ["a", "b", "c", "b", "a"])
        self.refuses(BadFolders, {"index": 3}, Folders, ["a", "b", "c", "b", "a"], chain=True)

    def test_the_first_wrong_thing_counts(self):
        self.refuses(BadFolders, {"index": 1}, Folders, ["a", "B", "a", "c", "d", "e", "f"])
        self.refuses(BadFolders, {"index": 2}, Folders, ["a", "b", "a", None])
        self.refuses(BadFolders, {"index": 5}, Folders, ["a", "b", "c", "d", "e", None, "f"])
        self.refuses(BadFolders, {"index": 5}, Folders, ["a", "b", "c", "d", "e", "f", "a"])
        self.refuses(BadFolders, {"index": 6}, Folders, ["a", "b", "c", "d", "e", "f", "a"], chain=True)

    def test_the_list_is_copied(self):
        names = ["a", "b"]
        folders = Folders(names)
        names[0] = "c"
        names.append("d")
        self.assertEqual(folders, Folders(["a", "b"]))
        self.assertEqual(folders.lots(), [("a",), ("b",), ("a", "b")])


class AskingFolders(Case):

    def test_len(self):
        self.assertEqual([len(Folders(list(ALPHABET[:many]))) for many in range(1, 6)], [1, 2, 3, 4, 5])

    def test_in(self):
        for chain in (False, True):
            folders = Folders(["ab", "c"], chain=chain)
            self.assertIs("ab" in folders, True)
            self.assertIs("c" in folders, True)
            for thing in any_objects() + [0, "a", "b", "abc", ["c"], ("c",), ("ab", "c"), folders]:
                self.assertIs(thing in folders, False)

    def test_equal(self):
        folders = Folders(["a", "b"])
        self.assertTrue(folders == Folders(("a", "b")))
        self.assertFalse(folders != Folders(("a", "b"), chain=False))
        self.assertTrue(Folders(["a", "b"], chain=True) == Folders(["a", "b"], chain=True))
        for other in (["b", "a"], ["a"], ["a", "b", "c"], ["a", "c"]):
            self.assertFalse(folders == Folders(other))
        self.assertFalse(folders == Folders(["a", "b"], chain=True))
        self.assertTrue(folders != Folders(["a", "b"], chain=True))

    def test_they_equal_nothing_else(self):
        for chain in (False, True):
            for thing in any_objects() + [["z", "a"], ("z", "a"), 2]:
                self.assertIs(Folders(["z", "a"], chain=chain) == thing, False)
                self.assertIs(thing == Folders(["z", "a"], chain=chain), False)


class Lots(Case):

    def test_the_order_of_lots(self):
        self.assertEqual(
            Folders(["b", "c", "a"]).lots(),
            [("b",), ("c",), ("a",), ("b", "c"), ("b", "a"), ("c", "a"), ("b", "c", "a")])
        self.assertEqual(
            Folders(["b", "c", "a"], chain=True).lots(),
            [("b",), ("c",), ("a",), ("b", "c"), ("c", "a"), ("b", "c", "a")])
        self.assertEqual(Folders(["x"]).lots(), [("x",)])
        self.assertEqual(Folders(["x"], chain=True).lots(), [("x",)])

    def test_lots_of_several_lengths(self):
        for many in range(1, 6):
            names = ALPHABET[many - 1::-1]
            self.assertEqual(Folders(list(names)).lots(), lots_by_definition(names, False))
        for many in range(1, 13):
            names = ALPHABET[many - 1::-1]
            self.assertEqual(Folders(list(names), chain=True).lots(), lots_by_definition(names, True))

    def test_kinds_of_what_is_returned(self):
        lots = Folders(["a", "b"]).lots()
        self.assertIs(lots.__class__, list)
        self.assertEqual({lot.__class__ for lot in lots}, {tuple})

    def test_the_list_is_a_new_one(self):
        folders = Folders(["a", "b"])
        lots = folders.lots()
        lots[0] = None
        lots.append(())
        self.assertEqual(folders.lots(), [("a",), ("b",), ("a", "b")])


if __name__ == "__main__":
    unittest.main()
