"""The interface: each name, argument, attribute and method as it is listed, in its own file and class."""

import inspect
import unittest

from blockshares import asking, books, folders, histories, keeping, questions, stores, striking, texts
from blockshares.asking import Combination, Reason, combination, reason
from blockshares.books import Book, Bound
from blockshares.folders import Folders
from blockshares.histories import History, Span
from blockshares.keeping import Keeper
from blockshares.questions import Question, freed, refers, shared, whole
from blockshares.stores import Store

# For each class: its file, and the arguments of what stands in its body.
CLASSES = (
    (Folders, folders, {
        "__init__": "(self, names, *, chain=False)", "lots": "(self)", "__len__": "(self)", "__contains__": None,
        "__eq__": None}),
    (Question, questions, {
        "__init__": "(self, folders, weights=None)", "weight": "(self, lot)", "counts": "(self)",
        "in_freed": "(self)", "__eq__": None, "__le__": None, "__add__": None, "__sub__": None, "__neg__": "(self)",
        "__mul__": None, "__rmul__": None}),
    (Store, stores, {
        "__init__": "(self, folders, sizes=None)", "sizes": "(self)", "total": "(self)", "strike": "(self, names)",
        "copy": "(self, name, new)", "write": "(self, name, size)", "share": "(self, lot, size)",
        "leave": "(self, name, lot, size)", "rename": "(self, name, new)", "__call__": "(self, question)",
        "__getitem__": None, "__contains__": None, "__len__": "(self)", "__eq__": None, "__le__": None,
        "__add__": None, "__mul__": None, "__rmul__": None, "__or__": None, "__and__": None}),
    (Book, books, {
        "__init__": "(self, folders)", "told": "(self)", "drop": "(self, question)", "copy": "(self)",
        "keeps": "(self, store)", "fits": "(self)", "wrong": "(self)", "least": "(self, question)",
        "greatest": "(self, question)", "grows": "(self, question)", "settled": "(self, question)",
        "needless": "(self)", "quarrels": "(self)", "fewest_back": "(self)", "__getitem__": None, "__setitem__": None,
        "__contains__": None, "__len__": "(self)", "__iter__": "(self)"}),
    (Bound, books, {}),
    (Combination, asking, {}),
    (Reason, asking, {}),
    (History, histories, {
        "__init__": "(self, folders)", "write": "(self, name)", "leave": "(self, name)", "copy": "(self, name, new)",
        "strike": "(self, names)", "folders_at": "(self, moment)", "threads": "(self)", "told": "(self)",
        "store_at": "(self, life, moment=None)", "fits": "(self)", "wrong": "(self)",
        "least": "(self, question, moment=None)", "greatest": "(self, question, moment=None)",
        "grows": "(self, question, moment=None)", "__getitem__": None, "__setitem__": None, "__len__": "(self)"}),
    (Span, histories, {}),
    (Keeper, keeping, {
        "__init__": "(self, store)", "present": "(self)", "hold": "(self, name, question)", "drop": "(self, name)",
        "kept": "(self)", "answer": "(self, name)", "do": "(self, deed)", "undo": "(self)", "again": "(self)",
        "deeds": "(self)", "would": "(self, deeds)"}),
)

FUNCTIONS = (
    (questions, {
        "refers": "(folders, names)", "freed": "(folders, names)", "shared": "(folders, names)",
        "just": "(folders, names)", "sent": "(folders, one, other)", "whole": "(folders)", "more_at": "(one, other)"}),
    (asking, {
        "combination": "(asked, question)", "unsettled": "(asked, question)", "least_choices": "(asked, question)",
        "reason": "(book, asked, question)", "doubtful": "(book, asked, question)"}),
    (striking, {
        "strikes": "(store, names)", "fewest_struck": "(book, size, *, sure=True)",
        "most_freed": "(book, count, *, sure=True)"}),
    (texts, {"text_of": "(thing)", "read": "(text)"}),
)


class Interface(unittest.TestCase):

    def test_methods_stand_in_the_body_of_their_class(self):
        for made, home, methods in CLASSES:
            self.assertEqual(made.__module__, home.__name__)
            for name, arguments in methods.items():
                with self.subTest(made=made, name=name):
                    self.assertIn(name, made.__dict__)
                    if arguments is not None:
                        self.assertEqual(str(inspect.signature(made.__dict__[name])), arguments)

    def test_functions_stand_in_their_file(self):
        for home, functions in FUNCTIONS:
            for name, arguments in functions.items():
                with self.subTest(name=name):
                    function = getattr(home, name)
                    self.assertEqual((function.__module__, function.__name__), (home.__name__, name))
                    self.assertEqual(str(inspect.signature(function)), arguments)

    def test_the_class_method(self):
        self.assertIsInstance(Store.__dict__["of_sizes"], classmethod)
        self.assertEqual(str(inspect.signature(Store.of_sizes)), "(folders, sizes)")

    def test_attributes(self):
        house = Folders(("a", "b"), chain=True)
        self.assertEqual((house.names, house.chain), (("a", "b"), True))
        self.assertEqual((Store(house).folders, Question(house).folders), (house, house))

    def test_attributes_of_books_and_of_what_is_made_by_the_package(self):
        house = Folders(["a", "b"])
        book = Book(house)
        self.assertEqual(book.folders, house)
        everything = whole(house)
        bound = book.least(everything)
        self.assertEqual((bound.value, bound.store, bound.weights, bound.times), ((0, 1), Store(house), [], 1))
        found = combination([everything], everything)
        self.assertEqual((found.numbers, found.divisor), ([1], 1))
        found = reason(book, [everything], everything)
        self.assertEqual((found.numbers, found.tellings, found.empty, found.divisor), ([1], {}, {}, 1))

    def test_attributes_of_histories(self):
        house = Folders(["a", "b"])
        history = History(house)
        self.assertEqual(history.folders, house)
        span = history.least(whole(house))
        self.assertEqual((span.value, span.life, span.weights, span.times), ((0, 1), {}, [], 1))
        history.copy("a", "c")
        self.assertEqual(history.folders, Folders(["a", "c", "b"]))

    def test_the_example(self):
        house = Folders(["a", "b"])
        book = Book(house)
        book[refers(house, ["a"])] = 30
        book[refers(house, ["b"])] = (None, 20)
        both = shared(house, ["a", "b"])
        self.assertEqual(
            [book.least(both).value, book.greatest(both).value, book.least(freed(house, ["a"])).value],
            [(0, 1), (20, 1), (10, 1)])
        book[whole(house)] = 35
        self.assertEqual(
            [book.greatest(both).value, book.settled(freed(house, ["b"])), book.grows(whole(house))],
            [(15, 1), True, None])
        store = Store(house, {("a",): 15, ("a", "b"): 15, ("b",): 5})
        self.assertEqual(
            [book.keeps(store), store(both), store.strike(["a"]).total(), len(store.copy("b", "c"))],
            [True, (15, 1), (20, 1), 3])


if __name__ == "__main__":
    unittest.main()
