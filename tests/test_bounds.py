"""Points 2 and 15 to 17: stores that fit, weights, the least and the greatest answer, and what grows for ever."""

import random
import unittest

from helping import any_objects
from papers import PaperCase, book_of, fitting, some_book, some_folders, some_question

from blockshares.books import Book
from blockshares.errors import UnlikeFolders, Wrong
from blockshares.folders import Folders
from blockshares.questions import Question, freed, just, refers, sent, shared, whole
from blockshares.stores import Store

AB = Folders(["a", "b"])
ABC = Folders(["a", "b", "c"])
CHAIN = Folders(["a", "b", "c"], chain=True)
UNLIKE = (CHAIN, AB, Folders(["a", "c", "b"]), Folders(["a", "b", "d"]))
PAIRS = [(refers(ABC, list(names)), 5, 5) for names in ("ab", "ac", "bc")] + [(shared(ABC, ["a", "b", "c"]), 0, 0)]
SINGLES = [(refers(ABC, [name]), 3, 3) for name in "abc"] + [(whole(ABC), 10, 10)]


class Examples(PaperCase):

    def test_whole_by_what_each_two_refer_to(self):
        book = book_of(ABC, PAIRS)
        self.assertEqual(self.check_answers(book, whole(ABC), book.fits()), ((5, 1), (15, 2)))
        self.check_bound(book, whole(ABC), book.greatest(question=whole(ABC)), 1)

    def test_no_store_has_so_much(self):
        book = book_of(ABC, SINGLES)
        self.assertIsNone(book.fits())
        weights = book.wrong()
        self.check_wrong(book, weights)
        self.assertEqual(weights, [-1, -1, -1, 1])

    def test_the_example_at_the_end_of_the_document(self):
        book = Book(AB)
        book[refers(AB, ["a"])] = 30
        book[refers(AB, ["b"])] = (None, 20)
        both = shared(AB, ["a", "b"])
        self.assertEqual([book.least(both).value, book.greatest(both).value, book.least(freed(AB, ["a"])).value], [
            (0, 1), (20, 1), (10, 1)])
        book[whole(AB)] = 35
        self.assertEqual([book.greatest(both).value, book.settled(freed(AB, ["b"])), book.grows(whole(AB))], [
            (15, 1), True, None])
        self.assertIs(book.keeps(Store(AB, {("a",): 15, ("a", "b"): 15, ("b",): 5})), True)


class Keeping(PaperCase):

    def setUp(self):
        self.book = book_of(ABC, [(refers(ABC, ["a"]), 2, 3), (freed(ABC, ["b"]), None, 1), (just(ABC, ["c"]), 4, None)])

    def test_each_end(self):
        fit = {("a",): 2, ("b",): 1, ("c",): 4}
        for changed, kept in (
                ({}, True), ({("a",): (39, 20)}, False), ({("a",): 3}, True), ({("a",): (31, 10)}, False),
                ({("b",): (11, 10)}, False), ({("b",): 0}, True), ({("c",): (79, 20)}, False), ({("c",): 99}, True),
                ({("a", "b"): 1, ("b", "c"): 7}, True), ({("a", "b", "c"): (5, 4)}, False)):
            store = Store(ABC, {**fit, **changed})
            self.assertIs(self.book.keeps(store=store), kept)
            self.assertIs(fitting(self.book, store), kept)
        self.assertIs(Book(ABC).keeps(Store(ABC)), True)

    def test_stores_of_other_folders(self):
        for folders in UNLIKE:
            self.refuses(UnlikeFolders, {}, self.book.keeps, Store(folders))
            self.refuses(UnlikeFolders, {}, Book(ABC).keeps, Store(folders))

    def test_ends_below_0(self):
        book = book_of(AB, [(sent(AB, "a", "b") - sent(AB, "b", "a"), -5, -2)])
        self.assertIs(book.keeps(Store(AB, {("a",): 2})), True)
        self.assertIs(book.keeps(Store(AB, {("b",): 2})), False)
        self.assertTrue(fitting(book, book.fits()))


class WithoutTellings(PaperCase):

    def test_ends_and_what_grows(self):
        for folders in (Folders(["a"]), ABC, CHAIN, Folders(list("abcdefghijkl"), chain=True)):
            book = Book(folders)
            self.assertEqual(book.fits().folders, folders)
            self.assertIsNone(book.wrong())
            base = Store(folders)
            self.assertEqual(self.check_answers(book, whole(folders), base), ((0, 1), None))
            self.assertEqual(self.check_answers(book, -whole(folders), base), (None, (0, 1)))
            self.assertEqual(self.check_answers(book, Question(folders), base), ((0, 1), (0, 1)))
            self.assertEqual(book.greatest(Question(folders)).weights, [])
        self.assertEqual(
            self.check_answers(Book(AB), just(AB, ["a"]) - just(AB, ["b"]), Store(AB)), (None, None))

    def test_lists_that_are_returned_are_new(self):
        book = book_of(ABC, PAIRS)
        bound = book.greatest(whole(ABC))
        bound.weights.clear()
        self.check_bound(book, whole(ABC), book.greatest(whole(ABC)), 1)
        wrong = book_of(ABC, SINGLES)
        wrong.wrong().clear()
        self.check_wrong(wrong, wrong.wrong())


class Errors(PaperCase):

    def asking(self, book):
        return [book.least, book.greatest, book.grows, book.settled]

    def test_questions_about_other_folders(self):
        # Also ahead of Wrong.
        for tellings in ([], PAIRS, SINGLES):
            book = book_of(ABC, tellings)
            for folders in UNLIKE:
                for call in self.asking(book):
                    self.refuses(UnlikeFolders, {}, call, whole(folders))
            self.assertEqual(book.told(), tellings)

    def test_wrong(self):
        book = book_of(ABC, SINGLES)
        for call in self.asking(book):
            for question in (whole(ABC), Question(ABC), refers(ABC, ["a"])):
                with self.assertRaises(Wrong) as caught:
                    call(question)
                self.assertIs(caught.exception.__class__, Wrong)
                self.check_wrong(book, caught.exception.weights)
                caught.exception.weights.clear()
        self.assertEqual(book.told(), SINGLES)

    def test_tellings_that_are_wrong_alone(self):
        for question, low, high in (
                (whole(ABC), -3, -1), (whole(ABC), None, -1), (-whole(ABC), 1, None), (Question(ABC), 1, None),
                (Question(ABC), -5, -5), (just(CHAIN, ["a", "c"]), 1, 2), (Question(AB), None, -1)):
            book = book_of(question.folders, [(question, low, high)])
            self.assertIsNone(book.fits())
            self.check_wrong(book, book.wrong())
            self.refuses(Wrong, {"weights": book.wrong()}, book.settled, question)

    def test_no_any_object_fits_or_is_told(self):
        book = book_of(ABC, PAIRS)
        for thing in any_objects():
            self.assertIs(thing in book, False)
        self.assertEqual(book.told(), PAIRS)


class ManyBooks(PaperCase):

    def test_papers(self):
        chance = random.Random(17)
        wrong = grows = fractions = 0
        for k in range(300):
            folders = some_folders(chance)
            book = some_book(folders, chance, chance.randrange(7))
            told = book.told()
            store, weights = book.fits(), book.wrong()
            self.assertEqual(store is None, weights is not None)
            if store is None:
                wrong += 1
                self.check_wrong(book, weights)
                continue
            self.assertTrue(fitting(book, store))
            self.assertIs(book.keeps(store), True)
            for question in [some_question(folders, chance), whole(folders)] + list(book)[:1]:
                least, greatest = self.check_answers(book, question, store)
                grows += greatest is None
                fractions += least is not None and least[1] > 1
            self.assertEqual(book.told(), told)
        self.assertGreater(min(wrong, grows, fractions), 5)

    def test_bounds_hold_for_stores_that_fit(self):
        chance = random.Random(5)
        kept = 0
        for k in range(60):
            book = some_book(AB, chance, 2, wrong=0)
            question = some_question(AB, chance)
            least, greatest = book.least(question), book.greatest(question)
            for sizes in [(one, other, both) for one in range(6) for other in range(6) for both in range(6)]:
                store = Store(AB, dict(zip(AB.lots(), sizes)))
                if book.keeps(store):
                    kept += 1
                    top, bottom = store(question)
                    self.assertTrue(least is None or least.value[0] * bottom <= top * least.value[1])
                    self.assertTrue(greatest is None or greatest.value[0] * bottom >= top * greatest.value[1])
        self.assertGreater(kept, 300)


class ToldAnew(PaperCase):

    def papers(self, book):
        """All that a book tells."""
        try:
            bounds = [book.least(whole(ABC)), book.greatest(whole(ABC))]
        except Wrong as wrong:
            return [book.fits(), book.wrong(), wrong.weights, book.quarrels(), book.fewest_back()]
        bounds = [bound and (bound.value, bound.store, bound.weights, bound.times) for bound in bounds]
        return [book.fits(), book.wrong(), bounds, book.grows(whole(ABC)), book.needless(), book.settled(whole(ABC))]

    def test_a_book_that_was_asked_tells_what_a_new_one_tells(self):
        book = Book(ABC)
        steps = PAIRS + SINGLES[:3] + [(PAIRS[0][0], None, 6), (whole(ABC), 3, None), SINGLES[3], (whole(ABC), 6, 7)]
        for question, low, high in steps:
            book[question] = (low, high)
            self.assertEqual(self.papers(book), self.papers(book_of(ABC, book.told())))
            self.assertEqual(self.papers(book), self.papers(book))
            self.assertEqual(self.papers(book), self.papers(book.copy()))
        while len(book) > 0:
            book.drop(list(book)[len(book) // 2])
            self.assertEqual(self.papers(book), self.papers(book_of(ABC, book.told())))

    def test_a_copy_goes_its_own_way(self):
        book = book_of(ABC, PAIRS)
        other = book.copy()
        other[whole(ABC)] = 7
        self.assertEqual((book.greatest(whole(ABC)).value, other.greatest(whole(ABC)).value), ((15, 2), (7, 1)))
        book.drop(PAIRS[0][0])
        self.assertEqual((book.greatest(whole(ABC)).value, other.least(whole(ABC)).value), ((10, 1), (7, 1)))


if __name__ == "__main__":
    unittest.main()
