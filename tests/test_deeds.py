"""Point 11: deeds."""

import unittest

from helping import Case, any_objects

from blockshares.errors import BadFolders, BadLot, BadName, BadSize, NoFolder, Taken
from blockshares.folders import Folders
from blockshares.questions import Question
from blockshares.stores import Store

ABC = Folders(["a", "b", "c"])
CHAIN = Folders(["a", "b", "c"], chain=True)
HUGE = 10 ** 24 + 7
SIZES = {("a",): 1, ("b",): 2, ("a", "b"): 8, ("b", "c"): (1, 2), ("a", "b", "c"): 64}


class DeedCase(Case):

    def setUp(self):
        self.store = Store(ABC, {**SIZES, ("a", "c"): 16})
        self.chain = Store(CHAIN, SIZES)

    def tearDown(self):
        # Whatever was done, or refused: a store never changes.
        self.assertEqual(self.store, Store(ABC, {**SIZES, ("a", "c"): 16}))
        self.assertEqual(self.chain, Store(CHAIN, SIZES))

    def refuses_names(self, deed, *rest):
        """The deed refuses all that is no folder as its first argument, ahead of what comes behind."""
        for thing in any_objects() + ["d", 0, ["a"], ("a",)]:
            with self.subTest(thing=thing):
                self.refuses(NoFolder, {"name": thing}, deed, thing, *rest)
                self.refuses(NoFolder, {"name": thing}, deed, thing, *[None for each in rest])


class Strike(DeedCase):

    def test_strike(self):
        self.assertEqual(
            self.store.strike(["b"]), Store(Folders(["a", "c"]), {("a",): 9, ("c",): (1, 2), ("a", "c"): 80}))
        self.assertEqual(
            self.chain.strike(names=("b",)),
            Store(Folders(["a", "c"], chain=True), {("a",): 9, ("c",): (1, 2), ("a", "c"): 64}))
        self.assertEqual(self.store.strike(["c", "a", "c"]), Store(Folders(["b"]), {("b",): (149, 2)}))

    def test_without_names(self):
        for store in (self.store, self.chain):
            for names in ([], ()):
                self.assertEqual(store.strike(names), store)

    def test_all(self):
        for store in (self.store, self.chain):
            self.refuses(BadFolders, {"index": 0}, store.strike, ["a", "b", "c"])
            self.refuses(BadFolders, {"index": 0}, store.strike, ("c", "b", "b", "a"))

    def test_no_folder(self):
        for thing in any_objects() + ["d", 0, ["b"], ("a",)]:
            with self.subTest(thing=thing):
                self.refuses(NoFolder, {"name": thing}, self.store.strike, ["a", thing, "x"])
                self.refuses(NoFolder, {"name": thing}, self.store.strike, ["a", "b", "c", thing])

    def test_what_is_no_list(self):
        # Not told by the document: it is refused as Folders refuses it.
        for thing in any_objects() + ["a", 0]:
            if not isinstance(thing, (list, tuple)):
                self.refuses(BadFolders, {"index": 0}, self.store.strike, thing)

    def test_it_loses_what_the_folders_alone_hold(self):
        for names in ([], ["a"], ["a", "b"], ["c", "b"]):
            freed = Question(ABC, {lot: 1 for lot in ABC.lots() if not [name for name in lot if name not in names]})
            left = self.store.strike(names).total()
            lost = self.store(freed)
            self.assertEqual(Store(Folders(["x"]), {("x",): left}) + Store(Folders(["x"]), {("x",): lost}),
                             Store(Folders(["x"]), {("x",): self.store.total()}))

    def test_names_stay_as_they_were(self):
        names = ["b", "b"]
        struck = self.store.strike(names)
        self.assertEqual(names, ["b", "b"])
        names.append("c")
        self.assertEqual(struck.folders.names, ("a", "c"))


class Copy(DeedCase):

    def test_copy(self):
        self.assertEqual(self.store.copy("b", "new"), Store(Folders(["a", "b", "new", "c"]), {
            ("a",): 1, ("b", "new"): 2, ("a", "b", "new"): 8, ("a", "c"): 16, ("b", "new", "c"): (1, 2),
            ("a", "b", "new", "c"): 64}))
        self.assertEqual(self.store.copy(name="c", new="d").folders, Folders(["a", "b", "c", "d"]))

    def test_copy_in_a_chain(self):
        self.assertEqual(self.chain.copy("b", "new"), Store(Folders(["a", "b", "new", "c"], chain=True), {
            ("a",): 1, ("b", "new"): 2, ("a", "b", "new"): 8, ("b", "new", "c"): (1, 2), ("a", "b", "new", "c"): 64}))
        self.assertEqual(self.chain.copy("a", "x").folders, Folders(["a", "x", "b", "c"], chain=True))

    def test_bad_names(self):
        for thing in any_objects() + [0, ["d"], ("d",)]:
            with self.subTest(thing=thing):
                self.refuses(BadName, {"name": thing}, self.store.copy, "a", thing)

    def test_no_folder_and_taken(self):
        self.refuses_names(self.store.copy, "a")
        for name in ("a", "b", "c"):
            self.refuses(Taken, {"name": name}, self.store.copy, "b", name)

    def test_too_many_folders(self):
        five = self.store.copy("a", "d").copy("a", "e")
        self.assertEqual(five.folders, Folders(["a", "e", "d", "b", "c"]))
        self.refuses(BadFolders, {"index": 5}, five.copy, "a", "f")
        self.refuses(Taken, {"name": "e"}, five.copy, "a", "e")
        twelve = Store(Folders(list("abcdefghijkl"), chain=True), {("k", "l"): 1})
        self.refuses(BadFolders, {"index": 12}, twelve.copy, "l", "m")
        self.refuses(BadName, {"name": "M"}, twelve.copy, "l", "M")
        self.assertEqual(twelve.strike(["a"]).copy("l", "m")["m", "l", "k"], (1, 1))


class WriteAndShare(DeedCase):

    def test_write(self):
        self.assertEqual(self.store.write("a", (1, 2)), self.store + Store(ABC, {("a",): (1, 2)}))
        self.assertEqual(self.chain.write(name="c", size=[6, 4]), self.chain + Store(CHAIN, {("c",): (3, 2)}))
        self.assertEqual(self.store.write("c", HUGE)["c",], (HUGE, 1))
        self.assertEqual(self.store.write("c", 0), self.store)

    def test_share(self):
        self.assertEqual(self.store.share(("c", "b"), (1, 2)), self.store + Store(ABC, {("b", "c"): (1, 2)}))
        self.assertEqual(self.chain.share(lot=["b", "a"], size=HUGE)["a", "b"], (HUGE + 8, 1))
        self.assertEqual(list(self.chain.share(["c"], [4, 6]).sizes().items())[2], (("c",), (2, 3)))
        self.assertEqual(self.chain.share(("a", "b", "c"), (0, 5)), self.chain)

    def test_bad_sizes(self):
        for thing in any_objects() + ["a", (1,)]:
            with self.subTest(thing=thing):
                self.refuses(BadSize, {"size": thing}, self.store.write, "a", thing)
                self.refuses(BadSize, {"size": thing}, self.chain.share, ("a", "b"), thing)

    def test_no_folder(self):
        self.refuses_names(self.store.write, 1)

    def test_bad_lots(self):
        for thing in any_objects() + ["a", 0, ("a", "d"), ("b", "b")]:
            with self.subTest(thing=thing):
                self.refuses(BadLot, {"lot": thing}, self.store.share, thing, 1)
                self.refuses(BadLot, {"lot": thing}, self.store.share, thing, -1)
        self.refuses(BadLot, {"lot": ("a", "c")}, self.chain.share, ("a", "c"), 1)

    def test_the_pair_is_copied(self):
        pair, lot = [1, 2], ["c", "b"]
        more = self.store.share(lot, pair)
        pair[0] = 5
        self.assertEqual((more["b", "c"], lot), ((1, 1), ["c", "b"]))


class Leave(DeedCase):

    def test_it_lies_in_the_lot_of_the_others(self):
        self.assertEqual(self.store.leave("a", ("b", "a"), 3), Store(ABC, {
            ("a",): 1, ("b",): 5, ("a", "b"): 5, ("a", "c"): 16, ("b", "c"): (1, 2), ("a", "b", "c"): 64}))
        self.assertEqual(self.store.leave("b", ["c", "b", "a"], (1, 2)), Store(ABC, {
            ("a",): 1, ("b",): 2, ("a", "b"): 8, ("a", "c"): (33, 2), ("b", "c"): (1, 2), ("a", "b", "c"): (127, 2)}))
        self.assertEqual(self.chain.leave(name="c", lot=("b", "c"), size=[2, 4]), Store(CHAIN, {
            ("a",): 1, ("b",): (5, 2), ("a", "b"): 8, ("a", "b", "c"): 64}))

    def test_the_last_folder_of_a_lot(self):
        self.assertEqual(self.store.leave("b", ("b",), (1, 3))["b",], (5, 3))
        gone = self.chain.leave("a", ["a"], 1)
        self.assertEqual((("a",) in gone, gone.total()), (False, (149, 2)))
        self.assertEqual(self.store.leave("c", ("c",), 0), self.store)

    def test_nothing_leaves(self):
        self.assertEqual(self.store.leave("a", ("b", "a"), 0), self.store)
        self.assertEqual(self.chain.leave("c", ("a", "b", "c"), (0, 4)), self.chain)

    def test_sizes_beyond_ten_to_the_twenty(self):
        store = Store(CHAIN, {("a", "b"): HUGE})
        self.assertEqual(store.leave("a", ("a", "b"), (2 * HUGE - 1, 2)).sizes(), {
            ("b",): (2 * HUGE - 1, 2), ("a", "b"): (1, 2)})

    def test_the_middle_one_of_a_chains_lot(self):
        for size in (1, 0, None):
            self.refuses(BadLot, {"lot": ("a", "b", "c")}, self.chain.leave, "b", ("a", "b", "c"), size)
        self.assertEqual(self.chain.leave("a", ("a", "b", "c"), 64)["b", "c"], (129, 2))

    def test_no_folder(self):
        self.refuses_names(self.store.leave, ("a",), 0)

    def test_bad_lots(self):
        for thing in any_objects() + ["a", 0, ("a", "d"), ("a", "b", "a"), ("b",), ["b", "c"]]:
            with self.subTest(thing=thing):
                self.refuses(BadLot, {"lot": thing}, self.store.leave, "a", thing, 0)
                self.refuses(BadLot, {"lot": thing}, self.store.leave, "a", thing, -1)
        self.refuses(BadLot, {"lot": ("a", "c")}, self.chain.leave, "a", ("a", "c"), 0)

    def test_bad_sizes(self):
        for thing in any_objects() + ["a", 9, (17, 2), [10 ** 24, 10 ** 23]]:
            with self.subTest(thing=thing):
                self.refuses(BadSize, {"size": thing}, self.store.leave, "a", ("a", "b"), thing)
        self.refuses(BadSize, {"size": 1}, self.store.leave, "c", ("c",), 1)


class Rename(DeedCase):

    def test_rename(self):
        self.assertEqual(self.store.rename("b", "z"), Store(Folders(["a", "z", "c"]), {
            ("a",): 1, ("z",): 2, ("a", "z"): 8, ("a", "c"): 16, ("z", "c"): (1, 2), ("a", "z", "c"): 64}))
        self.assertEqual(self.chain.rename(name="c", new="abcdefgh"), Store(
            Folders(["a", "b", "abcdefgh"], chain=True), {
                ("a",): 1, ("b",): 2, ("a", "b"): 8, ("b", "abcdefgh"): (1, 2), ("a", "b", "abcdefgh"): 64}))

    def test_taken(self):
        for name in ("a", "b", "c"):
            self.refuses(Taken, {"name": name}, self.store.rename, "b", name)

    def test_no_folder(self):
        self.refuses_names(self.store.rename, "a")

    def test_bad_names(self):
        for thing in any_objects() + [0, ["d"], ("d",)]:
            with self.subTest(thing=thing):
                self.refuses(BadName, {"name": thing}, self.store.rename, "a", thing)

    def test_five_folders_can_be_renamed(self):
        five = Store(Folders(["a", "b", "c", "d", "e"]), {("e",): 1})
        self.assertEqual(five.rename("e", "f"), Store(Folders(["a", "b", "c", "d", "f"]), {("f",): 1}))


if __name__ == "__main__":
    unittest.main()
