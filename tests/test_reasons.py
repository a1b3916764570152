"""Point 20: which answers settle a question in all stores that fit a book."""

import random
import unittest

from papers import PaperCase, answer, book_of, fitting, some_book, some_question

from blockshares.asking import Reason, combination, doubtful, reason
from blockshares.books import Book
from blockshares.errors import UnlikeFolders, Wrong
from blockshares.folders import Folders
from blockshares.questions import Question, freed, just, refers, sent, shared, whole
from blockshares.stores import Store

AB = Folders(["a", "b"])
ABC = Folders(["a", "b", "c"])
CHAIN = Folders(["a", "b", "c"], chain=True)
UNLIKE = (CHAIN, AB, Folders(["a", "c", "b"]), Folders(["a", "b", "d"]))
A, B, ALL = refers(AB, ["a"]), refers(AB, ["b"]), whole(AB)
BOTH = shared(AB, ["a", "b"])


class ReasonCase(PaperCase):

    def check_reason(self, book, asked, question, found):
        self.assertIsInstance(found, Reason)
        self.assertEqual((found.numbers.__class__, len(found.numbers)), (list, len(asked)))
        self.assertEqual((found.tellings.__class__, found.empty.__class__), (dict, dict))
        self.assertEqual(found.divisor.__class__, int)
        self.assertGreaterEqual(found.divisor, 1)
        numbers = list(found.numbers) + list(found.tellings.values()) + list(found.empty.values())
        self.assertEqual({number.__class__ for number in numbers} | {int}, {int})
        self.assertNotIn(0, list(found.tellings.values()) + list(found.empty.values()))
        told = list(book)
        for at in found.tellings:
            least, greatest = book.least(told[at]), book.greatest(told[at])
            self.check_bound(book, told[at], least, -1)
            self.check_bound(book, told[at], greatest, 1)
            self.assertEqual(least.value, greatest.value)
        for lot in found.empty:
            greatest = book.greatest(just(book.folders, lot))
            self.check_bound(book, just(book.folders, lot), greatest, 1)
            self.assertEqual(greatest.value, (0, 1))
        for lot in book.folders.lots():
            total = sum([number * each.weight(lot) for number, each in zip(found.numbers, asked)])
            total += sum([number * told[at].weight(lot) for at, number in found.tellings.items()])
            total += found.empty.get(lot, 0)
            self.assertEqual(total, found.divisor * question.weight(lot))

    def check_doubtful(self, book, asked, question, pair):
        self.assertEqual((pair.__class__, len(pair)), (tuple, 2))
        for store in pair:
            self.assertIsInstance(store, Store)
            self.assertEqual(store.folders, book.folders)
            self.assertTrue(fitting(book, store))
        for each in asked:
            self.assertEqual(answer(pair[0], each), answer(pair[1], each))
        self.assertNotEqual(answer(pair[0], question), answer(pair[1], question))

    def check_either(self, book, asked, question):
        """Just one of both papers is there; whether the answers settle the question."""
        told = book.told()
        found, pair = reason(book, asked, question), doubtful(book, asked, question)
        self.assertEqual(found is None, pair is not None)
        if found is None:
            self.check_doubtful(book, asked, question, pair)
        else:
            self.check_reason(book, asked, question, found)
        self.assertEqual(book.told(), told)
        return found is not None


class Reasons(ReasonCase):

    def test_without_tellings(self):
        for asked, question, settled in (
                ([A, B, ALL], BOTH, True), ([A, B], BOTH, False), ([], A, False), ([], Question(AB), True)):
            self.assertIs(self.check_either(Book(AB), asked, question), settled)
            self.assertIs(combination(asked, question) is not None, settled)

    def test_by_tellings_that_are_settled(self):
        book = book_of(AB, [(A, 3, 3), (B, 1, 4), (ALL, 5, 5)])
        found = reason(book=book, asked=[B], question=BOTH)
        self.assertEqual((found.numbers, found.tellings, found.empty, found.divisor), ([1], {0: 1, 2: -1}, {}, 1))
        self.assertTrue(self.check_either(book, [B], BOTH))
        self.assertTrue(self.check_either(book, (), sent(AB, "a", "b")))
        self.assertFalse(self.check_either(book, [A, ALL], BOTH))

    def test_by_tellings_that_others_settle(self):
        # The third telling is settled between its ends, by the other two.
        book = book_of(ABC, [(refers(ABC, ["a"]), 3, None), (refers(ABC, ["a"]) * 2, None, 6),
                             (refers(ABC, ["a"]) * 3, 7, 11)])
        for at, question in enumerate(list(book)):
            found = reason(book, [], question)
            self.check_reason(book, [], question, found)
        self.assertTrue(self.check_either(book, [whole(ABC)], freed(ABC, ["b", "c"])))
        self.assertFalse(self.check_either(book, [whole(ABC)], freed(ABC, ["b"])))

    def test_by_empty_lots(self):
        book = book_of(AB, [(BOTH, None, 0)])
        found = reason(book, [A, B], ALL)
        self.check_reason(book, [A, B], ALL, found)
        self.assertTrue(self.check_either(book, [A], sent(AB, "b", "a")))
        book = book_of(AB, [(A, 2, 5), (BOTH * 3 + just(AB, ["b"]), None, 0)])
        found = reason(book, [A], ALL)
        self.check_reason(book, [A], ALL, found)
        self.assertNotEqual(found.tellings or found.empty, {})
        self.assertTrue(self.check_either(book, [], B))
        self.assertFalse(self.check_either(book, [B], A))

    def test_empty_lots_that_no_telling_settles_alone(self):
        # What both hold has no end above in one telling, and must be 0 by two of them.
        book = book_of(AB, [(A - B, 4, None), (just(AB, ["a"]), None, 4)])
        self.assertEqual(book.greatest(just(AB, ["b"])).value, (0, 1))
        self.assertTrue(self.check_either(book, [A], B))
        self.assertTrue(self.check_either(book, [B], A))
        self.assertFalse(self.check_either(book, [], A))

    def test_stores_that_grow_for_ever(self):
        book = book_of(AB, [(A - B, -5, -5)])
        self.assertFalse(self.check_either(book, [], A))
        self.assertFalse(self.check_either(book, [A - B], BOTH))
        self.assertTrue(self.check_either(book, [A], B * 7))
        self.assertFalse(self.check_either(book_of(AB, [(A, 5, None), (B, 7, None)]), [A + B, BOTH], A - B))

    def test_many(self):
        chance = random.Random(12)
        settled = by_tellings = by_lots = 0
        for k in range(250):
            folders = Folders(list("cab")[:chance.randrange(1, 4)], chain=chance.random() < 0.3)
            book = some_book(folders, chance, chance.randrange(6), wrong=0, nothing=0.9)
            asked = [some_question(folders, chance) for k in range(chance.randrange(4))]
            question = some_question(folders, chance)
            if self.check_either(book, asked, question):
                settled += 1
                found = reason(book, asked, question)
                by_tellings += found.tellings != {}
                by_lots += found.empty != {}
        self.assertTrue(50 < settled < 200)
        self.assertGreater(min(by_tellings, by_lots), 5)


class Errors(ReasonCase):

    def test_unlike_folders(self):
        # Also ahead of Wrong.
        wrong = book_of(ABC, [(whole(ABC), None, -1)])
        for call in (reason, doubtful):
            for folders in UNLIKE:
                for book in (Book(ABC), wrong):
                    self.refuses(UnlikeFolders, {}, call, book, [], whole(folders))
                    self.refuses(UnlikeFolders, {}, call, book, [whole(folders)], whole(folders))
                    self.refuses(UnlikeFolders, {}, call, book, [whole(ABC), whole(folders)], whole(ABC))
                self.refuses(UnlikeFolders, {}, call, Book(folders), [whole(ABC)], whole(ABC))
                self.refuses(UnlikeFolders, {}, call, Book(folders), [whole(folders)], whole(ABC))

    def test_wrong(self):
        book = book_of(ABC, [(refers(ABC, ["a"]), 5, 5), (whole(ABC), 3, 3)])
        for call in (reason, doubtful):
            for question in (whole(ABC), Question(ABC)):
                with self.assertRaises(Wrong) as caught:
                    call(book, [whole(ABC)], question)
                self.assertIs(caught.exception.__class__, Wrong)
                self.check_wrong(book, caught.exception.weights)
        self.assertEqual(len(book), 2)

    def test_dicts_that_are_returned_are_new(self):
        book = book_of(AB, [(A, 3, 3), (BOTH, None, 0)])
        asked = [ALL]
        for k in range(2):
            found = reason(book, asked, just(AB, ["b"]))
            self.check_reason(book, asked, just(AB, ["b"]), found)
            found.numbers.clear()
            found.tellings.clear()
            found.empty.clear()
        self.assertEqual((asked, book.told()), ([ALL], [(A, 3, 3), (BOTH, None, 0)]))


if __name__ == "__main__":
    unittest.main()
