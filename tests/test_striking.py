"""Points 21 and 22: strikes, the fewest folders to strike, and those that free most."""

import itertools
import random
import unittest
from fractions import Fraction

from helping import any_objects
from papers import PaperCase, answer, book_of, some_book

from blockshares.books import Book
from blockshares.errors import BadNumber, BadSize, NoFolder, Wrong
from blockshares.folders import Folders
from blockshares.questions import freed, just, refers, shared, whole
from blockshares.stores import Store
from blockshares.striking import fewest_struck, most_freed, strikes

AB = Folders(["a", "b"])
ABC = Folders(["a", "b", "c"])
CHAIN = Folders(["a", "b", "c"], chain=True)
STORE = Store(ABC, {("a",): 1, ("b",): 2, ("c",): (1, 2), ("a", "b"): 8, ("a", "c"): 16, ("a", "b", "c"): 64})


class Strikes(PaperCase):

    def test_what_each_strike_frees(self):
        self.assertEqual(strikes(STORE, ["a", "b", "c"]), [(1, 1), (10, 1), (161, 2)])
        self.assertEqual(strikes(store=STORE, names=("c", "a")), [(1, 2), (17, 1)])
        self.assertEqual(strikes(STORE, ["b"]), [(2, 1)])
        chain = Store(CHAIN, {("a",): 1, ("a", "b", "c"): 4, ("b", "c"): (3, 6)})
        self.assertEqual(strikes(chain, ["a", "c", "b"]), [(1, 1), (0, 1), (9, 2)])
        self.assertEqual(strikes(chain, ["c", "b"]), [(0, 1), (1, 2)])

    def test_without_names_and_in_an_empty_store(self):
        self.assertEqual((strikes(STORE, []), strikes(STORE, ())), ([], []))
        self.assertEqual(strikes(Store(ABC), ["b", "a", "c"]), [(0, 1), (0, 1), (0, 1)])

    def test_all_orders(self):
        chance = random.Random(21)
        for folders in (Folders(["a"]), AB, ABC, Folders(list("dbca")), Folders(list("ebdca"), chain=True)):
            store = Store(folders, {lot: (chance.randrange(9), chance.randrange(1, 5)) for lot in folders.lots()})
            for many in range(len(folders) + 1):
                for names in itertools.permutations(folders.names, many):
                    found = strikes(store, list(names))
                    self.assertEqual(len(found), many)
                    left, expected = store, []
                    for at, name in enumerate(names):
                        # What a strike frees is what the total loses; there is no store without folders.
                        after = left.strike([name]) if at + 1 < len(folders) else None
                        expected.append(Fraction(*left.total()) - (Fraction(*after.total()) if after else 0))
                        left = after
                    self.assertEqual([Fraction(*size) for size in found], expected)
                    for size in found:
                        self.check_fraction(size)
                    self.assertEqual(sum(expected), answer(store, freed(folders, names)))

    def test_no_folder(self):
        for thing in any_objects() + ["d", 0, ["a"], ("a",)]:
            with self.subTest(thing=thing):
                self.refuses(NoFolder, {"name": thing}, strikes, STORE, ["a", thing, "x"])
                self.refuses(NoFolder, {"name": thing}, strikes, STORE, ["a", "b", "c", thing])

    def test_what_is_no_list(self):
        # Not told by the document: it is refused as the functions of point 7 refuse it.
        for thing in any_objects() + ["a", 0]:
            if not isinstance(thing, (list, tuple)):
                self.refuses(NoFolder, {"name": thing}, strikes, STORE, thing)

    def test_lists_are_copied(self):
        names = ["b", "a"]
        found = strikes(STORE, names)
        found.clear()
        self.assertEqual((names, strikes(STORE, names)), (["b", "a"], [(2, 1), (9, 1)]))


class Choices(PaperCase):

    def ends(self, book, choice, sure):
        """What striking frees at least or at most, by the papers of the book; None for no end."""
        bound = book.least(freed(book.folders, choice)) if sure else book.greatest(freed(book.folders, choice))
        return None if bound is None else Fraction(*bound.value)

    def all_choices(self, folders):
        return [[choice for choice in itertools.combinations(folders.names, many)]
                for many in range(len(folders) + 1)]

    def expected_fewest(self, book, size, sure):
        for row in self.all_choices(book.folders):
            found = [choice for choice in row
                     if self.ends(book, choice, sure) is None or self.ends(book, choice, sure) >= size]
            if found:
                return found
        return []

    def expected_most(self, book, count, sure):
        row = self.all_choices(book.folders)[count]
        ends = [self.ends(book, choice, sure) for choice in row]
        if None in ends:
            return (row[ends.index(None)], None)
        best = row[ends.index(max(ends))]
        return (best, (max(ends).numerator, max(ends).denominator))

    def check_book(self, book, sizes):
        told = book.told()
        for sure in (True, False):
            for size in sizes:
                pair = (Fraction(size).numerator, Fraction(size).denominator)
                self.assertEqual(fewest_struck(book, pair, sure=sure), self.expected_fewest(book, size, sure))
            for count in range(len(book.folders) + 1):
                found = most_freed(book, count, sure=sure)
                self.assertEqual(found, self.expected_most(book, count, sure))
                if found[1] is not None:
                    self.check_fraction(found[1])
        self.assertEqual(book.told(), told)


class Fewest(Choices):

    def setUp(self):
        self.book = book_of(ABC, [
            (freed(ABC, ["a"]), 3, 5), (freed(ABC, ["b"]), 4, 4), (freed(ABC, ["c"]), 1, 9), (whole(ABC), 20, 30)])

    def test_by_hand(self):
        for size, sure, choices in (
                (0, True, [()]), (0, False, [()]), ((0, 7), True, [()]), (1, True, [("a",), ("b",), ("c",)]),
                ((3, 1), True, [("a",), ("b",)]), ([7, 2], True, [("b",)]), ((9, 2), True, [("a", "b"), ("b", "c")]),
                (7, True, [("a", "b")]), ((15, 2), True, [("a", "b", "c")]), (20, True, [("a", "b", "c")]),
                ((41, 2), True, []), (10 ** 25, True, []), (5, False, [("a",), ("c",)]), (9, False, [("c",)]),
                ((37, 4), False, [("a", "b"), ("a", "c"), ("b", "c")]), (30, False, [("a", "b", "c")]),
                ((53, 2), False, [("a", "b"), ("b", "c")]), (29, False, [("a", "b")]), (31, False, [])):
            with self.subTest(size=size, sure=sure):
                self.assertEqual(fewest_struck(self.book, size, sure=sure), choices)
                if sure:
                    self.assertEqual(fewest_struck(book=self.book, size=size), choices)

    def test_an_end_that_is_not_there(self):
        book = book_of(ABC, [(freed(ABC, ["a", "b"]), None, 5), (freed(ABC, ["c"]), 2, 2)])
        self.assertEqual(fewest_struck(book, 10 ** 24, sure=False), [("a", "c"), ("b", "c")])
        self.assertEqual(fewest_struck(book, 10 ** 24), [])
        self.assertEqual(fewest_struck(book, 2), [("c",)])

    def test_folders_of_a_chain_that_are_no_neighbours(self):
        book = book_of(CHAIN, [
            (just(CHAIN, ["a"]), 3, 3), (just(CHAIN, ["c"]), 3, 3), (just(CHAIN, ["b"]), 1, 1), (whole(CHAIN), 7, 9)])
        self.assertEqual(fewest_struck(book, 6), [("a", "c")])
        self.assertEqual(most_freed(book, 2), (("a", "c"), (6, 1)))

    def test_bad_sizes(self):
        wrong = book_of(ABC, [(whole(ABC), None, -1)])
        for thing in any_objects() + ["a", (1,), (1, 2, 3)]:
            with self.subTest(thing=thing):
                for sure in (True, False):
                    self.refuses(BadSize, {"size": thing}, fewest_struck, self.book, thing, sure=sure)
                    # Ahead of Wrong.
                    self.refuses(BadSize, {"size": thing}, fewest_struck, wrong, thing, sure=sure)

    def test_sure_is_passed_by_its_name(self):
        self.assertRaises(TypeError, fewest_struck, self.book, 3, True)
        self.assertRaises(TypeError, most_freed, self.book, 1, True)

    def test_lists_are_new(self):
        size = [9, 2]
        for k in range(2):
            found = fewest_struck(self.book, size)
            self.assertEqual((found, size), ([("a", "b"), ("b", "c")], [9, 2]))
            self.assertEqual({choice.__class__ for choice in found}, {tuple})
            found.clear()


class Most(Choices):

    def test_by_hand(self):
        book = book_of(ABC, [
            (freed(ABC, ["a"]), 3, 5), (freed(ABC, ["b"]), 3, 4), (freed(ABC, ["c"]), 1, 9), (whole(ABC), 20, 30)])
        self.assertEqual(most_freed(book, 0), ((), (0, 1)))
        self.assertEqual(most_freed(book, 0, sure=False), ((), (0, 1)))
        self.assertEqual(most_freed(book=book, count=1), (("a",), (3, 1)))
        self.assertEqual(most_freed(book, 1, sure=False), (("c",), (9, 1)))
        self.assertEqual(most_freed(book, 2), (("a", "b"), (6, 1)))
        self.assertEqual(most_freed(book, 3, sure=True), (("a", "b", "c"), (20, 1)))
        self.assertEqual(most_freed(book, 3, sure=False), (("a", "b", "c"), (30, 1)))

    def test_the_first_of_several(self):
        book = Book(ABC)
        for count, choice in enumerate([(), ("a",), ("a", "b"), ("a", "b", "c")]):
            self.assertEqual(most_freed(book, count), (choice, (0, 1)))

    def test_the_first_without_an_end(self):
        book = book_of(ABC, [(freed(ABC, ["a"]), None, 10 ** 24), (freed(ABC, ["b"]), 1, None)])
        self.assertEqual(most_freed(book, 1, sure=False), (("b",), None))
        self.assertEqual(most_freed(book, 2, sure=False), (("a", "b"), None))
        self.assertEqual(most_freed(book, 1), (("b",), (1, 1)))
        self.assertEqual(most_freed(book, 0, sure=False), ((), (0, 1)))

    def test_values_that_are_fractions(self):
        book = book_of(ABC, [(freed(ABC, ["a"]) * 3, 7, 8), (freed(ABC, ["b"]) * 2, 4, 5)])
        self.assertEqual(most_freed(book, 1), (("a",), (7, 3)))
        self.assertEqual(most_freed(book_of(AB, [(whole(AB) * 2, None, 5)]), 1, sure=False), (("a",), (5, 2)))

    def test_bad_counts(self):
        book = book_of(ABC, [(whole(ABC), None, -1)])
        for thing in any_objects() + ["a", 4, (1, 1), 10 ** 24]:
            with self.subTest(thing=thing):
                for sure in (True, False):
                    self.refuses(BadNumber, {"number": thing}, most_freed, Book(ABC), thing, sure=sure)
                    # Ahead of Wrong.
                    self.refuses(BadNumber, {"number": thing}, most_freed, book, thing, sure=sure)
        self.refuses(BadNumber, {"number": 3}, most_freed, Book(AB), 3)

    def test_wrong(self):
        book = book_of(ABC, [(refers(ABC, ["a"]), 5, 5), (whole(ABC), 3, 3)])
        for call in (
                lambda: most_freed(book, 0), lambda: most_freed(book, 3, sure=False), lambda: fewest_struck(book, 0),
                lambda: fewest_struck(book, 10 ** 24), lambda: fewest_struck(book, 0, sure=False)):
            with self.assertRaises(Wrong) as caught:
                call()
            self.assertIs(caught.exception.__class__, Wrong)
            self.check_wrong(book, caught.exception.weights)
            caught.exception.weights.clear()
        self.assertEqual(len(book), 2)


class Many(Choices):

    def test_against_the_words_of_the_document(self):
        chance = random.Random(22)
        seen = set()
        for k in range(60):
            folders = Folders(list("dbcae")[:chance.randrange(1, 5)]) if k % 3 else Folders(
                list("dbcae")[:chance.randrange(1, 6)], chain=True)
            book = some_book(folders, chance, chance.randrange(7), wrong=0)
            self.check_book(book, [0, 1, Fraction(7, 2), 9, 40])
            seen |= {most_freed(book, 1, sure=False)[1] is None, len(fewest_struck(book, 9)) > 1, "n"}
        self.assertEqual(seen, {True, False, "n"})

    def test_a_bound_that_only_shared_blocks_tell(self):
        book = book_of(AB, [(whole(AB), 10, 10), (shared(AB, ["a", "b"]), 6, None)])
        self.check_book(book, [0, 4, Fraction(9, 2), 10, 11])


if __name__ == "__main__":
    unittest.main()
