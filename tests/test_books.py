"""Point 14: books and their tellings."""

import unittest

from helping import Case, any_objects

from blockshares.books import Book
from blockshares.errors import BadTelling, NotTold, UnlikeFolders
from blockshares.folders import Folders
from blockshares.questions import Question, refers, whole

ABC = Folders(["a", "b", "c"])
CHAIN = Folders(["a", "b", "c"], chain=True)
UNLIKE = (CHAIN, Folders(["a", "b"]), Folders(["a", "c", "b"]), Folders(["a", "b", "d"]))
A, B, ALL = refers(ABC, ["a"]), refers(ABC, ["b"]), whole(ABC)
HUGE = 10 ** 25 - 1


class Telling(Case):

    def setUp(self):
        self.book = Book(ABC)

    def tell(self, question, told):
        self.book[question] = told

    def test_an_empty_book(self):
        book = Book(folders=ABC)
        self.assertEqual((book.folders, len(book), book.told(), list(book)), (ABC, 0, [], []))
        self.assertIs(A in book, False)

    def test_what_can_be_told(self):
        for told, ends in (
                (5, (5, 5)), (-5, (-5, -5)), (0, (0, 0)), ((1, 2), (1, 2)), ([1, 1], (1, 1)), ((-3, None), (-3, None)),
                ([None, 4], (None, 4)), ((None, -4), (None, -4)), ((-HUGE, HUGE), (-HUGE, HUGE)), (HUGE, (HUGE, HUGE))):
            self.assertIsNone(self.book.__setitem__(A, told))
            self.assertEqual(self.book[A], ends)
            self.assertIs(self.book[A].__class__, tuple)
            self.assertEqual(self.book.told(), [(A, ends[0], ends[1])])

    def test_bad_tellings(self):
        self.book[A] = 3
        pairs = [(1, "2"), ("1", 2), (True, 2), (1, False), (1, [2]), (1, 2, 3), (1,), [[1, 2]], (None, A), (1, ()),
                 (None, None), [None, None], (2, 1), [0, -1], (HUGE, HUGE - 1), (-1, -2)]
        for thing in any_objects() + pairs:
            if thing.__class__ is not int and thing not in [[1, 0], [1, -1], (-1, 2)]:
                with self.subTest(thing=thing):
                    self.refuses(BadTelling, {"ends": thing}, self.tell, B, thing)
                    self.refuses(BadTelling, {"ends": thing}, self.tell, A, thing)
                    self.assertEqual(self.book.told(), [(A, 3, 3)])
        self.refuses(BadTelling, {"ends": [1, 0]}, self.tell, A, [1, 0])

    def test_questions_about_other_folders(self):
        for folders in UNLIKE:
            for told in (3, (None, None), "x"):
                self.refuses(UnlikeFolders, {}, self.tell, Question(folders), told)
                self.assertEqual(len(self.book), 0)

    def test_order(self):
        self.book[A] = 1
        self.book[B] = (2, 3)
        self.book[ALL] = (None, 9)
        self.assertEqual(self.book.told(), [(A, 1, 1), (B, 2, 3), (ALL, None, 9)])
        self.assertEqual(list(self.book), [A, B, ALL])
        self.assertEqual([question for question in self.book], [A, B, ALL])
        self.assertEqual(len(self.book), 3)

    def test_a_question_that_is_told_already(self):
        self.book[A] = 1
        self.book[B] = 2
        # The same question, told by weights.
        self.book[Question(ABC, {("c", "a"): 1, ("a",): 1, ("a", "b"): 1, ("a", "b", "c"): 1})] = (7, None)
        self.assertEqual(self.book.told(), [(A, 7, None), (B, 2, 2)])
        self.book[B] = 5
        self.assertEqual(self.book.told(), [(A, 7, None), (B, 5, 5)])

    def test_multiples_are_other_questions(self):
        self.book[A] = 1
        self.book[A * 2] = 1
        self.book[-A] = 1
        self.book[Question(ABC)] = 0
        self.assertEqual(list(self.book), [A, A * 2, -A, Question(ABC)])

    def test_drop(self):
        self.book[A] = 1
        self.book[B] = 2
        self.book[ALL] = 3
        self.assertIsNone(self.book.drop(question=B))
        self.assertEqual(self.book.told(), [(A, 1, 1), (ALL, 3, 3)])
        self.refuses(NotTold, {"question": B}, self.book.drop, B)
        self.refuses(NotTold, {"question": B}, lambda: self.book[B])
        self.book[B] = 4
        self.book.drop(A)
        self.book[A] = 5
        self.assertEqual(self.book.told(), [(ALL, 3, 3), (B, 4, 4), (A, 5, 5)])

    def test_what_is_not_told(self):
        self.book[A] = 1
        for question in [B, A * 2, -A] + [refers(folders, ["a"]) for folders in UNLIKE]:
            self.assertIs(question in self.book, False)
            self.refuses(NotTold, {"question": question}, self.book.drop, question)
            self.refuses(NotTold, {"question": question}, lambda at: self.book[at], question)
        self.assertIs(A in self.book, True)
        self.assertIs(refers(ABC, ["a", "a"]) in self.book, True)
        for thing in any_objects():
            self.assertIs(thing in self.book, False)
        self.assertEqual(self.book.told(), [(A, 1, 1)])

    def test_copy(self):
        self.book[A] = 1
        self.book[B] = 2
        other = self.book.copy()
        self.assertEqual((other.told(), other.folders), (self.book.told(), ABC))
        other[A] = (0, None)
        other.drop(B)
        other[ALL] = 9
        self.assertEqual(self.book.told(), [(A, 1, 1), (B, 2, 2)])
        self.book[ALL] = 8
        self.book.drop(A)
        self.assertEqual(other.told(), [(A, 0, None), (ALL, 9, 9)])
        self.assertEqual(self.book.told(), [(B, 2, 2), (ALL, 8, 8)])

    def test_lists_can_be_changed_behind_the_call(self):
        ends = [1, 2]
        self.book[A] = ends
        ends[1] = 0
        self.assertEqual(self.book[A], (1, 2))
        self.book.told().clear()
        self.book.told().append((B, 1, 1))
        self.assertEqual(self.book.told(), [(A, 1, 2)])

    def test_a_book_may_change_while_one_goes_through_it(self):
        for question in (A, B, ALL):
            self.book[question] = 1
        for question in self.book:
            self.book.drop(question)
        self.assertEqual(self.book.told(), [])


if __name__ == "__main__":
    unittest.main()
