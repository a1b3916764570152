"""Point 18: which tellings are needless, which quarrel, and which to take back."""

import itertools
import random
import unittest
from fractions import Fraction

from papers import PaperCase, book_of, fitting, some_book, some_folders

from blockshares.books import Book
from blockshares.errors import Wrong
from blockshares.folders import Folders
from blockshares.questions import Question, just, refers, shared, whole

AB = Folders(["a", "b"])
ABC = Folders(["a", "b", "c"])
A, B, C = [refers(ABC, [name]) for name in "abc"]
ALL = whole(ABC)


class Needless(PaperCase):

    def test_ends_that_follow(self):
        for tellings, expected in (
                ([], []),
                ([(A, 2, 3), (ALL, 2, None)], [ALL]),
                ([(A, 2, 3), (ALL, 3, None)], []),
                ([(A, None, 4), (ALL, None, 4)], [A]),
                ([(A, None, 4), (ALL, None, 3), (B, 0, None)], [A, B]),
                ([(A, 0, 4), (ALL, None, 4)], [A]),
                ([(A, 1, 4), (ALL, None, 4)], []),
                ([(Question(ABC), -1, 1), (A, 5, 5)], [Question(ABC)])):
            with self.subTest(tellings=tellings):
                self.assertEqual(book_of(ABC, tellings).needless(), expected)

    def test_each_one_alone_but_not_both(self):
        self.assertEqual(book_of(ABC, [(A, 2, 3), (B, 1, 1), (A * 2, 4, 6)]).needless(), [A, A * 2])
        self.assertEqual(book_of(ABC, [(-A, -3, -2), (A, 2, 3)]).needless(), [-A, A])
        self.assertEqual(book_of(ABC, [(A * 3, 7, 8), (A, 2, 3), (A * 2, 4, 6)]).needless(), [A, A * 2])

    def test_values_that_are_fractions(self):
        # From 5 on follows by the third telling, up to 7 does not: 15 halves is the most.
        pairs = [(refers(ABC, list(names)), 5, 5) for names in ("ab", "ac", "bc")] + [(shared(ABC, list("abc")), 0, 0)]
        self.assertEqual(book_of(ABC, pairs + [(ALL, 5, 8)]).needless(), [ALL])
        self.assertEqual(book_of(ABC, pairs + [(ALL, 5, 7)]).needless(), [])
        self.assertEqual(book_of(ABC, pairs + [(ALL * 2, 10, 15)]).needless(), [ALL * 2])
        self.assertEqual(book_of(ABC, pairs + [(ALL * 2, 10, 14)]).needless(), [])
        self.assertEqual(book_of(ABC, pairs + [(ALL, 6, 8)]).needless(), [])

    def test_wrong(self):
        for book in (book_of(ABC, [(A, 5, 5), (ALL, 3, 3)]), book_of(ABC, [(A, None, -1)])):
            with self.assertRaises(Wrong) as caught:
                book.needless()
            self.check_wrong(book, caught.exception.weights)

    def test_many_books(self):
        chance = random.Random(8)
        many = 0
        for k in range(150):
            book = some_book(some_folders(chance), chance, chance.randrange(6), wrong=0)
            expected = []
            for question, low, high in book.told():
                others = book.copy()
                others.drop(question)
                least, greatest = others.least(question), others.greatest(question)
                if (low is None or (least is not None and Fraction(*least.value) >= low)) and (
                        high is None or (greatest is not None and Fraction(*greatest.value) <= high)):
                    expected.append(question)
            many += len(expected)
            self.assertEqual(book.needless(), expected)
        self.assertGreater(many, 20)


class Quarrels(PaperCase):

    def test_a_store_fits(self):
        for tellings in ([], [(A, 3, 3), (ALL, 5, 9)], [(A, 1, None), (B, 1, None), (ALL, None, 2)]):
            self.assertEqual(book_of(ABC, tellings).quarrels(), [])
            self.assertEqual(book_of(ABC, tellings).fewest_back(), [[]])

    def test_several_quarrels(self):
        book = book_of(ABC, [(A, 5, 5), (ALL, None, 3), (B, 4, None), (C, -9, -1), (A * 2, 10, 10), (A + B, 9, 9)])
        self.assertEqual(book.quarrels(), [[C], [A, ALL], [ALL, B], [ALL, A * 2], [ALL, A + B]])
        self.assertEqual(book.fewest_back(), [[ALL, C]])

    def test_order_of_choices(self):
        book = book_of(ABC, [(ALL, None, 3), (A, 2, 2), (B, 2, 2), (shared(ABC, ["a", "b"]), None, 0), (C, 4, 4)])
        self.assertEqual(book.quarrels(), [[ALL, C], [ALL, A, B, shared(ABC, ["a", "b"])]])
        self.assertEqual(book.fewest_back(), [[ALL]])
        book[ALL] = (4, 4)
        book[C] = 5
        book[A] = (3, 3)
        self.assertEqual(book.quarrels(), [[ALL, C], [ALL, A, B, shared(ABC, ["a", "b"])]])
        book[A + B + C] = (0, 1)
        self.assertEqual(book.quarrels(), [
            [ALL, C], [ALL, A + B + C], [A, A + B + C], [B, A + B + C], [C, A + B + C],
            [ALL, A, B, shared(ABC, ["a", "b"])]])
        self.assertEqual(book.fewest_back(), [[ALL, A + B + C]])

    def test_several_to_take_back(self):
        book = book_of(ABC, [(A, 5, 5), (B, 1, 1), (ALL, None, 3)])
        self.assertEqual((book.quarrels(), book.fewest_back()), ([[A, ALL]], [[A], [ALL]]))
        book[C] = (None, -2)
        self.assertEqual((book.quarrels(), book.fewest_back()), ([[C], [A, ALL]], [[A, C], [ALL, C]]))

    def test_lists_that_are_returned_are_new(self):
        book = book_of(ABC, [(A, 5, 5), (ALL, None, 3)])
        for call in (book.quarrels, book.fewest_back, lambda: [list(book)]):
            call()[0].clear()
            call().clear()
        self.assertEqual((book.quarrels(), book.fewest_back()), ([[A, ALL]], [[A], [ALL]]))
        self.assertEqual(len(book), 2)

    def test_many_books(self):
        chance = random.Random(3)
        long = 0
        for k in range(120):
            book = some_book(some_folders(chance), chance, 6, wrong=0.6, nothing=0)
            told = book.told()
            places = range(len(told))
            choices = [choice for many in range(len(told) + 1) for choice in itertools.combinations(places, many)]
            kept = {}
            for choice in choices:
                part = book_of(book.folders, [told[at] for at in choice])
                store = part.fits()
                kept[choice] = store is not None
                if store is None:
                    self.check_wrong(part, part.wrong())
                else:
                    self.assertTrue(fitting(part, store))
            quarrels = [choice for choice in choices if not kept[choice] and all(
                [kept[tuple([at for at in choice if at != one])] for one in choice])]
            self.assertEqual(book.quarrels(), [[told[at][0] for at in choice] for choice in quarrels])
            back = [choice for choice in choices if kept[tuple([at for at in places if at not in choice])]]
            self.assertEqual(book.fewest_back(), [
                [told[at][0] for at in choice] for choice in back if len(choice) == len(back[0])])
            self.assertEqual(book.told(), told)
            long += len(quarrels) > 1 and len(quarrels[-1]) > 2
        self.assertGreater(long, 1)

    def test_chains(self):
        chain = Folders(list("abcdefghijkl"), chain=True)
        ends = just(chain, ["a"]) + just(chain, ["l"])
        book = book_of(chain, [
            (whole(chain), None, 5), (refers(chain, ["a"]), 4, None), (refers(chain, ["l"]), 4, None),
            (shared(chain, ["a", "l"]), 0, 1), (ends, 2, 2), (refers(chain, ["f"]), 0, 0)])
        self.assertEqual(book.quarrels(), [[list(book)[at] for at in choice] for choice in ((0, 1, 2, 3), (0, 1, 2, 5))])
        self.assertEqual(book.fewest_back(), [[list(book)[at]] for at in (0, 1, 2)])

    def test_without_tellings(self):
        self.assertEqual((Book(AB).needless(), Book(AB).quarrels(), Book(AB).fewest_back()), ([], [], [[]]))


if __name__ == "__main__":
    unittest.main()
