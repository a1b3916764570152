"""Points 3 and 9: sizes and stores."""

import unittest

from helping import Case, any_objects, can_be_key

from blockshares.errors import BadLot, BadSize, UnlikeFolders
from blockshares.folders import Folders
from blockshares.questions import Question
from blockshares.stores import Store

ABC = Folders(["a", "b", "c"])
CHAIN = Folders(["a", "b", "c"], chain=True)
HUGE = 10 ** 24 + 7


class MakingStores(Case):

    def test_sizes_as_integers_and_pairs(self):
        store = Store(ABC, {
            ("c", "a"): (4, 6), ("b",): 5, ("a", "b", "c"): [6, 3], ("a",): (0, 9), ("c",): 0, ("b", "c"): (HUGE, 1)})
        self.assertEqual(store.folders, ABC)
        self.assertEqual(list(store.sizes().items()), [
            (("b",), (5, 1)), (("a", "c"), (2, 3)), (("b", "c"), (HUGE, 1)), (("a", "b", "c"), (2, 1))])
        self.assertEqual({size.__class__ for size in store.sizes().values()}, {tuple})
        self.assertEqual(len(store), 4)

    def test_nothing_is_told(self):
        for store in (Store(ABC), Store(ABC, None), Store(ABC, {}), Store(folders=ABC, sizes={("a",): 0})):
            self.assertEqual((store.sizes(), len(store), store.total()), ({}, 0, (0, 1)))
            self.assertEqual([store[lot] for lot in ABC.lots()], [(0, 1)] * 7)

    def test_lots_of_a_chain(self):
        names = list("abcdefghijkl")
        store = Store(Folders(names, chain=True), {tuple(names[::-1]): 1, ("d", "b", "c"): 2, ("l",): 3})
        self.assertEqual(list(store.sizes().items()), [
            (("l",), (3, 1)), (("b", "c", "d"), (2, 1)), (tuple(names), (1, 1))])

    def test_sizes_beyond_ten_to_the_twenty(self):
        store = Store(ABC, {("a",): HUGE, ("b",): (HUGE * 15, HUGE * 6), ("c",): (1, HUGE)})
        self.assertEqual([store["a",], store["b",], store["c",]], [(HUGE, 1), (5, 2), (1, HUGE)])
        self.assertEqual(store.total(), (2 * HUGE * HUGE + 5 * HUGE + 2, 2 * HUGE))

    def test_bad_lots(self):
        for thing in any_objects() + ["a", 0, ("a", "d"), ("b", "a", "b")]:
            if can_be_key(thing):
                with self.subTest(thing=thing):
                    self.refuses(BadLot, {"lot": thing}, Store, ABC, {("a",): 1, thing: 1, ("x",): 1})
        self.refuses(BadLot, {"lot": ("c", "a")}, Store, CHAIN, {("b", "a"): 1, ("c", "a"): 1})

    def test_the_same_lot_twice(self):
        self.refuses(BadLot, {"lot": ("b", "a")}, Store, ABC, {("a", "b"): 1, ("b", "a"): 1})
        self.refuses(BadLot, {"lot": ("a", "b")}, Store, CHAIN, {("b", "a"): 0, ("c",): 1, ("a", "b"): 0})

    def test_bad_sizes(self):
        for thing in any_objects() + ["a", "1", (1,), ((1, 1), 1)]:
            with self.subTest(thing=thing):
                self.refuses(BadSize, {"size": thing}, Store, ABC, {("a",): 1, ("c",): thing, ("b",): "x"})

    def test_lots_are_looked_at_ahead_of_sizes(self):
        self.refuses(BadLot, {"lot": ("d",)}, Store, ABC, {("a",): "x", ("d",): 1})
        self.refuses(BadLot, {"lot": ("d",)}, Store, ABC, {("d",): "x", ("e",): "y"})
        self.refuses(BadSize, {"size": "x"}, Store, ABC, {("c",): "x", ("a",): "y"})

    def test_the_dict_is_copied(self):
        pair = [1, 2]
        sizes = {("a",): pair, ("b", "a"): 3}
        store = Store(ABC, sizes)
        self.assertEqual(sizes, {("a",): [1, 2], ("b", "a"): 3})
        pair[0] = 7
        sizes[("b",)] = 1
        del sizes[("b", "a")]
        self.assertEqual(store.sizes(), {("a",): (1, 2), ("a", "b"): (3, 1)})

    def test_the_returned_dict_is_a_new_one(self):
        store = Store(ABC, {("a",): 1})
        store.sizes()[("b",)] = (2, 1)
        store.sizes().clear()
        self.assertEqual(store.sizes(), {("a",): (1, 1)})
        self.assertEqual((len(store), ("b",) in store), (1, False))


class AskingStores(Case):

    def setUp(self):
        self.store = Store(ABC, {("a",): 15, ("b", "a"): (5, 2), ("a", "b", "c"): 1})

    def test_items(self):
        self.assertEqual(self.store[("a",)], (15, 1))
        self.assertEqual(self.store["a", "b"], (5, 2))
        self.assertEqual(self.store[["b", "a"]], (5, 2))
        self.assertEqual(self.store["c", "a", "b"], (1, 1))
        self.assertEqual(self.store["c",], (0, 1))

    def test_items_of_no_lots(self):
        for thing in any_objects() + ["a", 0, ("a", "d"), ["b", "b"]]:
            with self.subTest(thing=thing):
                self.refuses(BadLot, {"lot": thing}, lambda at: self.store[at], thing)
        self.refuses(BadLot, {"lot": ["a", "c"]}, lambda at: Store(CHAIN)[at], ["a", "c"])

    def test_in(self):
        for lot in (("a",), ["a"], ("b", "a"), ["a", "b"], ("c", "b", "a")):
            self.assertIs(lot in self.store, True)
        for thing in any_objects() + ["a", 0, ("b",), ("c", "a"), ("a", "d"), ("a", "a")]:
            with self.subTest(thing=thing):
                self.assertIs(thing in self.store, False)
        self.assertIs(("a", "c") in Store(CHAIN, {("a",): 1}), False)

    def test_len_and_total(self):
        self.assertEqual((len(self.store), self.store.total()), (3, (37, 2)))
        self.assertEqual(Store(ABC, {("a",): (1, 6), ("b",): (1, 3), ("c",): (1, 2)}).total(), (1, 1))

    def test_it_is_not_iterated_over(self):
        self.assertRaises(TypeError, list, self.store)

    def test_equal(self):
        self.assertTrue(self.store == Store(ABC, {
            ("c", "b", "a"): (7, 7), ("a", "b"): [10, 4], ("a",): 15, ("c",): 0}))
        self.assertFalse(self.store == Store(ABC, {("a",): 15, ("b", "a"): (5, 2)}))
        self.assertTrue(self.store != Store(ABC, {("a",): 15, ("b", "a"): (5, 3), ("a", "b", "c"): 1}))
        self.assertFalse(Store(ABC) == Store(CHAIN))
        self.assertFalse(Store(ABC) == Store(Folders(["a", "c", "b"])))
        self.assertFalse(Store(ABC, {("a",): 1}) == Store(ABC, {("b",): 1}))

    def test_it_equals_nothing_else(self):
        for thing in any_objects() + [{("a",): (15, 1)}, self.store.sizes(), ABC, Question(ABC)]:
            self.assertIs(self.store == thing, False)
            self.assertIs(Store(ABC) == thing, False)
            self.assertIs(thing == self.store, False)

    def test_answers(self):
        self.assertEqual(self.store(Question(ABC, {("a",): 2, ("a", "b"): -3, ("b",): 9})), (45, 2))
        self.assertEqual(self.store(Question(ABC, {("a", "b"): 2})), (5, 1))
        self.assertEqual(self.store(Question(ABC, {("a", "b"): -1})), (-5, 2))
        self.assertEqual(self.store(question=Question(ABC)), (0, 1))
        self.assertEqual(Store(ABC, {("a",): (1, 3), ("b",): (1, 3)})(Question(ABC, {("a",): 1, ("b",): -1})), (0, 1))
        self.assertEqual(Store(CHAIN, {("b", "c"): HUGE})(Question(CHAIN, {("c", "b"): HUGE})), (HUGE * HUGE, 1))

    def test_questions_about_other_folders(self):
        for folders in (CHAIN, Folders(["a", "b"]), Folders(["a", "c", "b"]), Folders(["a", "b", "d"])):
            self.refuses(UnlikeFolders, {}, self.store, Question(folders))

    def test_an_answer_changes_nothing(self):
        question = Question(ABC, {("a",): 2})
        self.store(question)
        self.assertEqual(question, Question(ABC, {("a",): 2}))
        self.assertEqual(self.store.sizes(), {("a",): (15, 1), ("a", "b"): (5, 2), ("a", "b", "c"): (1, 1)})


if __name__ == "__main__":
    unittest.main()
