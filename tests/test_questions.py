"""Points 6 and 8: questions, and what holds for them in all stores."""

import itertools
import random
import unittest

from helping import Case, any_objects, can_be_key

from blockshares.errors import BadLot, BadNumber, UnlikeFolders
from blockshares.folders import Folders
from blockshares.questions import Question, freed, just, more_at, refers, shared, whole
from blockshares.stores import Store

AB = Folders(["a", "b"])
ABC = Folders(["a", "b", "c"])
CHAIN = Folders(["a", "b", "c"], chain=True)
UNLIKE = (CHAIN, AB, Folders(["a", "c", "b"]), Folders(["a", "b", "d"]))
HUGE = 10 ** 25 - 7


class Questions(Case):

    def test_weights_and_counts(self):
        question = Question(ABC, {("c", "b", "a"): -2, ("b",): 3, ("a", "c"): 0})
        self.assertEqual(question.folders, ABC)
        self.assertEqual(question.weight(("a", "b", "c")), -2)
        self.assertEqual(question.weight(["b", "a", "c"]), -2)
        self.assertEqual(question.weight(lot=["b"]), 3)
        self.assertEqual(question.weight(("a",)), 0)
        self.assertEqual(list(question.counts().items()), [(("b",), 3), (("a", "b", "c"), -2)])
        self.assertEqual(Question(ABC).counts(), {})
        self.assertEqual(Question(folders=ABC, weights=None).counts(), {})

    def test_equal(self):
        question = Question(ABC, {("a", "b"): 1, ("c",): 2})
        self.assertTrue(question == Question(ABC, {("c",): 2, ("b", "a"): 1, ("b",): 0}))
        self.assertFalse(question == Question(ABC, {("c",): 2}))
        self.assertTrue(question != Question(CHAIN, {("c",): 2, ("b", "a"): 1}))
        for folders in UNLIKE:
            self.assertIs(Question(ABC) == Question(folders), False)
        for thing in any_objects() + [{("a", "b"): 1, ("c",): 2}]:
            self.assertIs(question == thing, False)
            self.assertIs(thing == question, False)

    def test_bad_lots(self):
        for thing in any_objects() + [0, "a", ("a", "d"), ("b", "a", "b")]:
            with self.subTest(thing=thing):
                self.refuses(BadLot, {"lot": thing}, Question(ABC).weight, thing)
                if can_be_key(thing):
                    self.refuses(BadLot, {"lot": thing}, Question, ABC, {("a",): 1, thing: 1})
        self.refuses(BadLot, {"lot": ("c", "a")}, Question, CHAIN, {("c", "a"): 1})
        self.refuses(BadLot, {"lot": ("b", "a")}, Question, ABC, {("a", "b"): 0, ("b", "a"): 0})

    def test_bad_numbers(self):
        for thing in any_objects():
            if thing.__class__ is not int:
                with self.subTest(thing=thing):
                    self.refuses(BadNumber, {"number": thing}, Question, ABC, {("a",): thing})

    def test_entries_in_their_order(self):
        self.refuses(BadNumber, {"number": "x"}, Question, ABC, {("a",): "x", ("d",): 1})
        self.refuses(BadLot, {"lot": ("d",)}, Question, ABC, {("d",): 1, ("a",): "x"})
        self.refuses(BadLot, {"lot": ("d",)}, Question, ABC, {("d",): "x"})
        self.refuses(BadLot, {"lot": ("b", "a")}, Question, ABC, {("a", "b"): 1, ("b", "a"): "x"})

    def test_dicts_are_copied(self):
        weights = {("a",): 1}
        question = Question(ABC, weights)
        weights[("b",)] = 2
        question.counts()[("c",)] = 3
        question.in_freed()[("c",)] = 3
        self.assertEqual(question.counts(), {("a",): 1})
        self.assertEqual(question.in_freed(), {("a",): 1})


class Reckoning(Case):

    def setUp(self):
        self.one = Question(ABC, {("a",): 2, ("a", "b"): -3, ("c",): HUGE})
        self.other = Question(ABC, {("a",): 5, ("b", "a"): 3, ("b",): 1})

    def tearDown(self):
        self.assertEqual(self.one.counts(), {("a",): 2, ("a", "b"): -3, ("c",): HUGE})
        self.assertEqual(self.other.counts(), {("a",): 5, ("a", "b"): 3, ("b",): 1})

    def test_sums_and_differences(self):
        self.assertEqual(list((self.one + self.other).counts().items()), [(("a",), 7), (("b",), 1), (("c",), HUGE)])
        self.assertEqual(list((self.one - self.other).counts().items()), [
            (("a",), -3), (("b",), -1), (("c",), HUGE), (("a", "b"), -6)])
        self.assertEqual(self.one - self.one, Question(ABC))
        self.assertEqual((self.one + self.other).folders, ABC)
        self.assertEqual(self.one + Question(ABC), self.one)

    def test_the_other_way_round(self):
        self.assertEqual((-self.one).counts(), {("a",): -2, ("c",): -HUGE, ("a", "b"): 3})
        self.assertEqual(-(-self.one), self.one)
        self.assertEqual(-Question(CHAIN), Question(CHAIN))

    def test_so_many_times(self):
        for number in (1, 4, -3, HUGE):
            counts = {("a",): 2 * number, ("c",): HUGE * number, ("a", "b"): -3 * number}
            for product in (self.one * number, number * self.one):
                self.assertEqual(list(product.counts().items()), list(counts.items()))
        self.assertEqual((self.one * 0, 0 * self.one), (Question(ABC), Question(ABC)))

    def test_bad_numbers(self):
        for thing in any_objects() + [(1, 1), [1, 2], "a", self.one]:
            if thing.__class__ is not int:
                with self.subTest(thing=thing):
                    self.refuses(BadNumber, {"number": thing}, lambda number: self.one * number, thing)
                    # What stands ahead of the sign refuses the other one, if it can be multiplied itself.
                    if not isinstance(thing, (Store, Question)):
                        self.refuses(BadNumber, {"number": thing}, lambda number: number * self.one, thing)

    def test_questions_about_unlike_folders(self):
        for folders in UNLIKE:
            for one, other in ((self.one, Question(folders)), (Question(folders), self.one)):
                self.refuses(UnlikeFolders, {}, lambda one, other: one + other, one, other)
                self.refuses(UnlikeFolders, {}, lambda one, other: one - other, one, other)
                self.refuses(UnlikeFolders, {}, lambda one, other: one <= other, one, other)
                self.refuses(UnlikeFolders, {}, more_at, one, other)


class InAllStores(Case):

    def test_order(self):
        one = Question(ABC, {("a",): 1, ("b", "c"): -2})
        for other, less, more in (
                (one, True, True), (Question(ABC, {("a",): 1}), True, False), (Question(ABC), False, False),
                (Question(ABC, {("a",): 2, ("b", "c"): -2}), True, False),
                (Question(ABC, {("a",): 1, ("b", "c"): -2, ("a", "b", "c"): -1}), False, True)):
            self.assertIs(one <= other, less)
            self.assertIs(other <= one, more)

    def test_more_at(self):
        one = Question(ABC, {("a", "c"): 3, ("b",): 1, ("a", "b", "c"): HUGE})
        other = Question(ABC, {("a",): 4, ("b",): 1, ("a", "c"): 2})
        self.assertEqual(more_at(one, other), Store(ABC, {("a", "c"): 1}))
        self.assertEqual(more_at(one=other, other=one), Store(ABC, {("a",): 1}))
        self.assertIsNone(more_at(one, one))
        self.assertIsNone(more_at(one, one + other))
        self.assertEqual(more_at(Question(CHAIN), Question(CHAIN, {("c", "b"): -1})), Store(CHAIN, {("b", "c"): 1}))

    def test_the_store_shows_that_the_one_is_more(self):
        kinds = {None: 0, Store: 0}
        for one, other in itertools.product(some_questions(ABC, 12), repeat=2):
            store = more_at(one, other)
            kinds[store and Store] += 1
            self.assertIs(one <= other, store is None)
            if store is not None:
                first = [lot for lot in ABC.lots() if one.weight(lot) > other.weight(lot)][0]
                self.assertEqual(store.sizes(), {first: (1, 1)})
                self.assertGreater(store(one)[0], store(other)[0])
        self.assertGreater(min(kinds.values()), 10)

    def test_in_freed(self):
        self.assertEqual(list(refers(AB, ["a"]).in_freed().items()), [(("b",), -1), (("a", "b"), 1)])
        self.assertEqual(just(ABC, ["a", "b"]).in_freed(), {("a",): -1, ("b",): -1, ("a", "b"): 1})
        self.assertEqual(Question(ABC).in_freed(), {})
        for folders in (ABC, CHAIN, Folders(["b", "d", "a", "c"])):
            for lot in folders.lots():
                self.assertEqual((freed(folders, lot) * HUGE).in_freed(), {lot: HUGE})
            for question in some_questions(folders, 20):
                found = question.in_freed()
                total = Question(folders)
                for lot, number in found.items():
                    total = total + freed(folders, lot) * number
                self.assertEqual(total, question)
                self.assertNotIn(0, found.values())
                self.assertEqual(list(found), [lot for lot in folders.lots() if lot in found])

    def test_in_freed_of_a_long_chain(self):
        chain = Folders(list("abcdefghijkl"), chain=True)
        self.assertEqual(whole(chain).in_freed(), {chain.names: 1})
        self.assertEqual(shared(chain, ["c", "f"]).in_freed(), {
            tuple("defghijkl"): -1, tuple("abcde"): -1, chain.names: 1, tuple("de"): 1})
        self.assertEqual(list(shared(chain, ["c", "f"]).in_freed()), [
            tuple("de"), tuple("abcde"), tuple("defghijkl"), chain.names])

    def test_the_examples(self):
        self.assertEqual(refers(AB, ["a"]), freed(AB, ["a", "b"]) - freed(AB, ["b"]))
        self.assertEqual(shared(AB, ["a", "b"]), refers(AB, ["a"]) + refers(AB, ["b"]) - refers(AB, ["a", "b"]))


def some_questions(folders, many):
    chance = random.Random(len(folders))
    return [Question(folders, {lot: chance.randrange(-2, 3) for lot in folders.lots()}) for k in range(many - 2)] + [
        Question(folders, {folders.lots()[-1]: HUGE, folders.lots()[0]: -HUGE}), Question(folders)]


if __name__ == "__main__":
    unittest.main()
