"""Point 6, as far as a store needs it: a number for each lot."""

import unittest

from helping import Case, any_objects, can_be_key

from blockshares.errors import BadLot, BadNumber
from blockshares.folders import Folders
from blockshares.questions import Question

ABC = Folders(["a", "b", "c"])
CHAIN = Folders(["a", "b", "c"], chain=True)


class Questions(Case):

    def test_weights_and_counts(self):
        question = Question(ABC, {("c", "b", "a"): -2, ("b",): 3, ("a", "c"): 0})
        self.assertEqual(question.folders, ABC)
        self.assertEqual(question.weight(("a", "b", "c")), -2)
        self.assertEqual(question.weight(["b", "a", "c"]), -2)
        self.assertEqual(question.weight(lot=["b"]), 3)
        self.assertEqual(question.weight(("a",)), 0)
        self.assertEqual(list(question.counts().items()), [(("b",), 3), (("a", "b", "c"), -2)])
        self.assertEqual(Question(ABC).counts(), {})
        self.assertEqual(Question(folders=ABC, weights=None).counts(), {})

    def test_equal(self):
        question = Question(ABC, {("a", "b"): 1, ("c",): 2})
        self.assertTrue(question == Question(ABC, {("c",): 2, ("b", "a"): 1, ("b",): 0}))
        self.assertFalse(question == Question(ABC, {("c",): 2}))
        self.assertTrue(question != Question(CHAIN, {("c",): 2, ("b", "a"): 1}))
        for thing in any_objects() + [{("a", "b"): 1, ("c",): 2}]:
            self.assertIs(question == thing, False)

    def test_bad_lots(self):
        for thing in any_objects() + [0, "a", ("a", "d"), ("b", "a", "b")]:
            with self.subTest(thing=thing):
                self.refuses(BadLot, {"lot": thing}, Question(ABC).weight, thing)
                if can_be_key(thing):
                    self.refuses(BadLot, {"lot": thing}, Question, ABC, {("a",): 1, thing: 1})
        self.refuses(BadLot, {"lot": ("c", "a")}, Question, CHAIN, {("c", "a"): 1})
        self.refuses(BadLot, {"lot": ("b", "a")}, Question, ABC, {("a", "b"): 0, ("b", "a"): 0})

    def test_bad_numbers(self):
        for thing in any_objects():
            if thing.__class__ is not int:
                with self.subTest(thing=thing):
                    self.refuses(BadNumber, {"number": thing}, Question, ABC, {("a",): thing})

    def test_entries_in_their_order(self):
        self.refuses(BadNumber, {"number": "x"}, Question, ABC, {("a",): "x", ("d",): 1})
        self.refuses(BadLot, {"lot": ("d",)}, Question, ABC, {("d",): 1, ("a",): "x"})
        self.refuses(BadLot, {"lot": ("d",)}, Question, ABC, {("d",): "x"})

    def test_dicts_are_copied(self):
        weights = {("a",): 1}
        question = Question(ABC, weights)
        weights[("b",)] = 2
        question.counts()[("c",)] = 3
        self.assertEqual(question.counts(), {("a",): 1})


if __name__ == "__main__":
    unittest.main()
