"""Point 10: new stores of stores."""

import unittest

from helping import Case, any_objects

from blockshares.errors import BadFolders, BadSize, NoFolder, Taken, UnlikeFolders
from blockshares.folders import Folders
from blockshares.questions import Question
from blockshares.stores import Store

ABC = Folders(["a", "b", "c"])
CHAIN = Folders(["a", "b", "c"], chain=True)
HUGE = 10 ** 24 + 7


class SumsAndOrder(Case):

    def setUp(self):
        self.one = Store(ABC, {("a",): 1, ("a", "b"): (1, 2), ("c",): HUGE})
        self.other = Store(ABC, {("b",): (2, 3), ("b", "a"): (1, 3)})

    def test_sums(self):
        both = Store(ABC, {("a",): 1, ("b",): (2, 3), ("c",): HUGE, ("a", "b"): (5, 6)})
        self.assertEqual(self.one + self.other, both)
        self.assertEqual(self.other + self.one, both)
        self.assertEqual(list((self.one + self.other).sizes()), [("a",), ("b",), ("c",), ("a", "b")])
        self.assertEqual(self.one + Store(ABC), self.one)
        self.assertEqual((self.one.total(), self.other.total()), ((2 * HUGE + 3, 2), (1, 1)))

    def test_order(self):
        self.assertIs(self.other <= self.other, True)
        self.assertIs(Store(ABC) <= self.one, True)
        self.assertIs(self.one <= Store(ABC), False)
        self.assertIs(self.one <= self.one + self.other, True)
        self.assertIs(self.one + self.other <= self.one, False)
        self.assertIs(self.one <= self.other, False)
        self.assertIs(self.other <= self.one, False)
        self.assertIs(Store(ABC, {("a",): (1, 3)}) <= Store(ABC, {("a",): (1, 2)}), True)
        self.assertIs(Store(ABC, {("a",): (1, 2)}) <= Store(ABC, {("a",): (1, 3)}), False)

    def test_unlike_folders(self):
        for folders in (CHAIN, Folders(["a", "b"]), Folders(["a", "c", "b"]), Folders(["a", "b", "d"])):
            for one, other in ((self.one, Store(folders)), (Store(folders), self.one)):
                self.refuses(UnlikeFolders, {}, lambda one, other: one + other, one, other)
                self.refuses(UnlikeFolders, {}, lambda one, other: one <= other, one, other)


class SoManyTimes(Case):

    def test_from_both_sides(self):
        store = Store(ABC, {("a",): 6, ("b", "a"): (1, 2)})
        for many, first, second in (
                (1, (6, 1), (1, 2)), (4, (24, 1), (2, 1)), ((2, 6), (2, 1), (1, 6)), ([1, 2], (3, 1), (1, 4)),
                (HUGE, (6 * HUGE, 1), (HUGE, 2))):
            for product in (store * many, many * store):
                self.assertEqual(list(product.sizes().items()), [(("a",), first), (("a", "b"), second)])
                self.assertEqual(product.folders, ABC)

    def test_no_times(self):
        for many in (0, (0, 3), [0, 1]):
            self.assertEqual(Store(CHAIN, {("a",): 6}) * many, Store(CHAIN))
            self.assertEqual(many * Store(CHAIN, {("a",): 6}), Store(CHAIN))

    def test_bad_sizes(self):
        store = Store(ABC, {("a",): 6})
        for thing in any_objects() + ["a", store, ABC]:
            with self.subTest(thing=thing):
                self.refuses(BadSize, {"size": thing}, lambda many: store * many, thing)
                if not isinstance(thing, (Store, Question)):
                    self.refuses(BadSize, {"size": thing}, lambda many: many * store, thing)
        self.assertEqual(store.sizes(), {("a",): (6, 1)})


class Beside(Case):

    def test_folders_and_sizes(self):
        one = Store(Folders(["b", "a"]), {("a", "b"): 1, ("a",): 2})
        other = Store(Folders(["d", "c"]), {("d",): (1, 2), ("c", "d"): 3})
        both = one | other
        self.assertEqual(both.folders, Folders(["b", "a", "d", "c"]))
        self.assertEqual(list(both.sizes().items()), [
            (("a",), (2, 1)), (("d",), (1, 2)), (("b", "a"), (1, 1)), (("d", "c"), (3, 1))])
        self.assertEqual((other | one).folders, Folders(["d", "c", "b", "a"]))

    def test_a_chain_if_both_are(self):
        for first in (False, True):
            for second in (False, True):
                one = Store(Folders(["b", "a"], chain=first), {("a", "b"): 1})
                other = Store(Folders(["d", "c"], chain=second), {("d", "c"): 2})
                both = Store(Folders(["b", "a", "d", "c"], chain=first and second), {("b", "a"): 1, ("d", "c"): 2})
                self.assertEqual(one | other, both)
                self.assertIs((one | other).folders.chain, first and second)

    def test_taken(self):
        one = Store(Folders(["a", "b", "c", "d"]))
        self.refuses(Taken, {"name": "c"}, lambda other: one | other, Store(Folders(["e", "c", "a"])))
        self.refuses(Taken, {"name": "a"}, lambda other: one | other, one)

    def test_too_many_folders(self):
        one = Store(Folders(["a", "b", "c"]))
        self.assertEqual(len((one | Store(Folders(["d", "e"]))).folders), 5)
        self.refuses(BadFolders, {"index": 5}, lambda other: one | other, Store(Folders(["d", "e", "f"])))
        self.refuses(BadFolders, {"index": 5}, lambda other: one | other, Store(Folders(list("defghij"), chain=True)))
        self.refuses(BadFolders, {"index": 5}, lambda other: Store(Folders(list("defghij"), chain=True)) | other, one)

    def test_too_many_folders_of_chains(self):
        one = Store(Folders(list("abcdefg"), chain=True))
        self.assertEqual(len((one | Store(Folders(list("hijkl"), chain=True))).folders), 12)
        self.refuses(BadFolders, {"index": 12}, lambda other: one | other, Store(Folders(list("hijklmn"), chain=True)))

    def test_taken_goes_first(self):
        one = Store(Folders(["a", "b", "c"]))
        self.refuses(Taken, {"name": "c"}, lambda other: one | other, Store(Folders(["d", "e", "f", "c"])))


class WhatSomeSee(Case):

    def setUp(self):
        self.store = Store(ABC, {
            ("a",): 1, ("b",): 2, ("c",): 4, ("a", "b"): 8, ("a", "c"): 16, ("b", "c"): 32, ("a", "b", "c"): 64})

    def test_two_of_three(self):
        for names in (["a", "c"], ("c", "a"), ["c", "a", "c", "c"]):
            seen = self.store & names
            self.assertEqual(seen.folders, Folders(["a", "c"]))
            self.assertEqual(list(seen.sizes().items()), [(("a",), (9, 1)), (("c",), (36, 1)), (("a", "c"), (80, 1))])

    def test_one_and_all(self):
        self.assertEqual(self.store & ["b"], Store(Folders(["b"]), {("b",): 106}))
        self.assertEqual(self.store & ["c", "b", "a"], self.store)

    def test_chains_stay_chains(self):
        store = Store(CHAIN, {("a",): 1, ("b",): 2, ("a", "b"): (1, 2), ("b", "c"): 32, ("a", "b", "c"): 64})
        seen = store & ["c", "a"]
        self.assertEqual(seen, Store(Folders(["a", "c"], chain=True), {("a",): (3, 2), ("c",): 32, ("a", "c"): 64}))
        self.assertIs(seen.folders.chain, True)

    def test_no_folder(self):
        for thing in any_objects() + ["d", 0, ["b"], ("a",)]:
            with self.subTest(thing=thing):
                self.refuses(NoFolder, {"name": thing}, lambda names: self.store & names, ["b", thing, "x"])
                self.refuses(NoFolder, {"name": thing}, lambda names: self.store & names, (thing,))

    def test_no_folders(self):
        self.refuses(BadFolders, {"index": 0}, lambda names: self.store & names, [])
        self.refuses(BadFolders, {"index": 0}, lambda names: self.store & names, ())

    def test_what_is_no_list(self):
        # Not told by the document: it is refused as Folders refuses it.
        for thing in any_objects() + ["a", 0]:
            if not isinstance(thing, (list, tuple)):
                self.refuses(BadFolders, {"index": 0}, lambda names: self.store & names, thing)

    def test_names_stay_as_they_were(self):
        names = ["c", "a", "c"]
        seen = self.store & names
        self.assertEqual(names, ["c", "a", "c"])
        names.clear()
        self.assertEqual((seen.folders.names, self.store.folders), (("a", "c"), ABC))
        self.assertEqual(self.store.total(), (127, 1))


if __name__ == "__main__":
    unittest.main()
