"""Point 12: the store of told sizes."""

import unittest

from helping import Case, any_objects, can_be_key

from blockshares.errors import BadLot, BadSize, Lacking, NotStore
from blockshares.folders import Folders
from blockshares.questions import Question
from blockshares.stores import Store

AB = Folders(["a", "b"])


def refers(folders, lot):
    return Question(folders, {each: 1 for each in folders.lots() if [name for name in each if name in lot]})


def sizes_of(store):
    return {lot: store(refers(store.folders, lot)) for lot in store.folders.lots()}


def spread_store(names, pace):
    """A store in which every third lot is empty and the others have unlike sizes."""
    folders = Folders(names)
    return Store(folders, {
        lot: 0 if at % 3 == pace else (at * at + 1, at % 4 + 1) for at, lot in enumerate(folders.lots())})


class OfSizes(Case):

    def test_two_folders(self):
        store = Store.of_sizes(AB, {("b", "a"): 10, ("b",): [15, 2], ("a",): (8, 2)})
        self.assertEqual(store, Store(AB, {("a",): (5, 2), ("b",): 6, ("a", "b"): (3, 2)}))
        self.assertIs(store.__class__, Store)

    def test_by_name(self):
        folders = Folders(["x"])
        self.assertEqual(Store.of_sizes(folders=folders, sizes={("x",): 0}), Store(folders))

    def test_it_is_the_store_that_has_these_sizes(self):
        for names in (["a"], ["b", "a"], ["a", "b", "c"], ["d", "a", "c", "b"], ["a", "b", "c", "d", "e"]):
            for pace in range(4):
                store = spread_store(names, pace)
                self.assertEqual(Store.of_sizes(store.folders, sizes_of(store)), store)

    def test_sizes_beyond_ten_to_the_twenty(self):
        store = spread_store(["a", "b", "c"], 1) * (10 ** 24 + 7, 3)
        self.assertEqual(Store.of_sizes(store.folders, sizes_of(store)), store)

    def test_bad_lots(self):
        for thing in any_objects() + ["a", 0, ("a", "d")]:
            if can_be_key(thing):
                with self.subTest(thing=thing):
                    self.refuses(BadLot, {"lot": thing}, Store.of_sizes, AB, {("a",): 1, thing: 1, ("x",): 1})
        self.refuses(BadLot, {"lot": ("b", "a")}, Store.of_sizes, AB, {("a", "b"): 1, ("b", "a"): 1})

    def test_lacking(self):
        self.refuses(Lacking, {"lot": ("a",)}, Store.of_sizes, AB, {})
        self.refuses(Lacking, {"lot": ("b",)}, Store.of_sizes, AB, {("a",): 1})
        self.refuses(Lacking, {"lot": ("a", "b")}, Store.of_sizes, AB, {("b",): 1, ("a",): 1})

    def test_bad_sizes_in_the_order_of_lots(self):
        for thing in any_objects() + ["a"]:
            with self.subTest(thing=thing):
                sizes = {("a", "b"): "x", ("b",): thing, ("a",): 1}
                self.refuses(BadSize, {"size": thing}, Store.of_sizes, AB, sizes)

    def test_not_store(self):
        self.refuses(NotStore, {"lot": ("a",)}, Store.of_sizes, AB, {("a",): 1, ("b",): 2, ("a", "b"): 1})
        self.refuses(NotStore, {"lot": ("b",)}, Store.of_sizes, AB, {("a",): 2, ("b",): 1, ("a", "b"): (3, 2)})
        self.refuses(NotStore, {"lot": ("a", "b")}, Store.of_sizes, AB, {("a",): 1, ("b",): 1, ("a", "b"): (5, 2)})
        self.refuses(NotStore, {"lot": ("a",)}, Store.of_sizes, AB, {("a",): 2, ("b",): 2, ("a", "b"): 1})

    def test_the_order_of_the_errors(self):
        self.refuses(BadLot, {"lot": "x"}, Store.of_sizes, AB, {("a",): None, "x": 1})
        self.refuses(Lacking, {"lot": ("b",)}, Store.of_sizes, AB, {("a",): None})
        self.refuses(BadSize, {"size": None}, Store.of_sizes, AB, {("a",): 9, ("b",): None, ("a", "b"): 1})

    def test_the_dict_stays_as_it_was(self):
        sizes = {("b", "a"): 2, ("b",): [2, 2], ("a",): 1}
        store = Store.of_sizes(AB, sizes)
        self.assertEqual(list(sizes.items()), [(("b", "a"), 2), (("b",), [2, 2]), (("a",), 1)])
        sizes[("b",)][0] = 7
        sizes.clear()
        self.assertEqual(store, Store(AB, {("a",): 1, ("b",): 1}))


if __name__ == "__main__":
    unittest.main()
