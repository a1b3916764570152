"""Points 1 to 4 over the whole program: how arguments are passed, kinds of values, and that calls keep to themselves."""

import inspect
import itertools
import unittest

from helping import Case

from blockshares.asking import Combination, Reason, combination, doubtful, least_choices, reason, unsettled
from blockshares.books import Book, Bound
from blockshares.folders import Folders
from blockshares.histories import History, Span
from blockshares.keeping import Keeper
from blockshares.questions import Question, freed, just, more_at, refers, sent, shared, whole
from blockshares.stores import Store
from blockshares.striking import fewest_struck, most_freed, strikes
from blockshares.texts import read, text_of

AB = Folders(["a", "b"])
A, B, ALL = refers(AB, ["a"]), refers(AB, ["b"]), whole(AB)
STORE = Store(AB, {("a",): 3, ("a", "b"): (5, 2)})


def a_book():
    book = Book(AB)
    book[A] = 5
    book[B] = (None, 2)
    return book


def a_history():
    history = History(AB)
    history[ALL] = 5
    history.leave("a")
    history[A] = (1, None)
    return history


def a_keeper():
    keeper = Keeper(STORE)
    keeper.hold("all", ALL)
    keeper.do(("write", "a", 1))
    keeper.do(("write", "b", 1))
    keeper.undo()
    return keeper


LIFE = {(("a",), ("a",)): 3, (("b", "a"), ("b",)): (1, 2)}
SIZES = {("a",): (3, 1), ("b",): (7, 2), ("a", "b"): (9, 2)}
DEEDS = (("write", "a", (1, 2)), ("share", ("b", "a"), (3, 1)), ("strike", ("b",)))

# Calls: what makes the object, the name of its method or the function itself, the arguments by their names, and the kind
# of what is returned.
CALLS = (
    (None, Folders, {"names": ("a", "b")}, Folders),
    (None, Question, {"folders": AB, "weights": {("b", "a"): 3}}, Question),
    (None, Store, {"folders": AB, "sizes": {("b", "a"): (3, 2)}}, Store),
    (None, Store.of_sizes, {"folders": AB, "sizes": SIZES}, Store),
    (None, refers, {"folders": AB, "names": ("a",)}, Question),
    (None, freed, {"folders": AB, "names": ("a", "a")}, Question),
    (None, shared, {"folders": AB, "names": ("b", "a")}, Question),
    (None, just, {"folders": AB, "names": ("b",)}, Question),
    (None, sent, {"folders": AB, "one": "a", "other": "b"}, Question),
    (None, whole, {"folders": AB}, Question),
    (None, more_at, {"one": A, "other": B}, Store),
    (None, combination, {"asked": (A, B), "question": A - B}, Combination),
    (None, unsettled, {"asked": (A, B), "question": ALL}, tuple),
    (None, least_choices, {"asked": (A, B, A + B), "question": A}, list),
    (a_book, reason, {"asked": (ALL,), "question": ALL * 2}, Reason),
    (a_book, doubtful, {"asked": (A,), "question": ALL}, tuple),
    (None, strikes, {"store": STORE, "names": ("b", "a")}, list),
    (a_book, fewest_struck, {"size": (5, 2)}, list),
    (a_book, most_freed, {"count": 1}, tuple),
    (None, text_of, {"thing": STORE}, str),
    (None, text_of, {"thing": a_book()}, str),
    (None, read, {"text": "store a b\na 3\n"}, Store),
    (None, read, {"text": "book a b\n1 1 1:a\n"}, Book),
    (lambda: AB, "lots", {}, list),
    (lambda: A, "weight", {"lot": ("b", "a")}, int),
    (lambda: A, "counts", {}, dict),
    (lambda: A, "in_freed", {}, dict),
    (lambda: STORE, "sizes", {}, dict),
    (lambda: STORE, "total", {}, tuple),
    (lambda: STORE, "strike", {"names": ("b",)}, Store),
    (lambda: STORE, "copy", {"name": "a", "new": "c"}, Store),
    (lambda: STORE, "write", {"name": "a", "size": (2, 4)}, Store),
    (lambda: STORE, "share", {"lot": ("b", "a"), "size": (2, 4)}, Store),
    (lambda: STORE, "leave", {"name": "b", "lot": ("b", "a"), "size": (1, 2)}, Store),
    (lambda: STORE, "rename", {"name": "a", "new": "c"}, Store),
    (a_book, "told", {}, list),
    (a_book, "drop", {"question": A}, None),
    (a_book, "copy", {}, Book),
    (a_book, "keeps", {"store": STORE}, bool),
    (a_book, "fits", {}, Store),
    (a_book, "wrong", {}, None),
    (a_book, "least", {"question": ALL}, Bound),
    (a_book, "greatest", {"question": ALL}, Bound),
    (a_book, "grows", {"question": ALL}, None),
    (a_book, "settled", {"question": ALL}, bool),
    (a_book, "needless", {}, list),
    (a_book, "quarrels", {}, list),
    (a_book, "fewest_back", {}, list),
    (a_history, "write", {"name": "a"}, None),
    (a_history, "leave", {"name": "a"}, None),
    (a_history, "copy", {"name": "a", "new": "c"}, None),
    (a_history, "strike", {"names": ("b",)}, None),
    (a_history, "folders_at", {"moment": 0}, Folders),
    (a_history, "threads", {}, list),
    (a_history, "told", {}, list),
    (a_history, "store_at", {"life": LIFE, "moment": 1}, Store),
    (a_history, "fits", {}, dict),
    (a_history, "wrong", {}, None),
    (a_history, "least", {"question": ALL, "moment": 0}, Span),
    (a_history, "greatest", {"question": ALL, "moment": 0}, Span),
    (a_history, "grows", {"question": B, "moment": 1}, None),
    (a_keeper, "present", {}, Store),
    (a_keeper, "hold", {"name": "other", "question": ALL}, None),
    (a_keeper, "drop", {"name": "all"}, None),
    (a_keeper, "kept", {}, list),
    (a_keeper, "answer", {"name": "all"}, tuple),
    (a_keeper, "do", {"deed": ("share", ("b", "a"), (3, 2))}, list),
    (a_keeper, "undo", {}, list),
    (a_keeper, "again", {}, list),
    (a_keeper, "deeds", {}, list),
    (a_keeper, "would", {"deeds": DEEDS}, list),
)


def as_lists(thing):
    """An argument with a list in place of each tuple, also within; keys of dicts stay tuples."""
    if isinstance(thing, (list, tuple)):
        return [as_lists(each) for each in thing]
    if isinstance(thing, dict):
        return {key: as_lists(each) for key, each in thing.items()}
    return thing


def emptied(thing):
    """Changes what a caller still holds of an argument, or what was returned, also within."""
    parts = list(thing.values()) if isinstance(thing, dict) else thing if isinstance(thing, (list, tuple)) else []
    for each in parts:
        emptied(each)
    if isinstance(thing, (list, dict)):
        thing.clear()


def state(thing):
    """All that an object tells, as values that can be compared."""
    if isinstance(thing, (list, tuple)):
        return [thing.__class__] + [state(each) for each in thing]
    if isinstance(thing, dict):
        return [dict] + [(state(key), state(each)) for key, each in thing.items()]
    if isinstance(thing, Folders):
        return [Folders, thing.names, thing.chain, thing.lots()]
    if isinstance(thing, Question):
        return [Question, state(thing.folders), state(thing.counts())]
    if isinstance(thing, Store):
        return [Store, state(thing.folders), state(thing.sizes())]
    if isinstance(thing, Book):
        return [Book, state(thing.folders), state(thing.told())]
    if isinstance(thing, History):
        moments = [thing.folders_at(moment) for moment in range(len(thing) + 1)]
        return [History, state(moments), state(thing.folders), state(thing.told()), state(thing.threads())]
    if isinstance(thing, Keeper):
        answers = [thing.answer(name) for name in thing.kept()]
        return [Keeper, state(thing.present()), thing.kept(), state(answers), state(thing.deeds())]
    if isinstance(thing, (Bound, Span, Combination, Reason)):
        return [thing.__class__, state(vars(thing))]
    return [thing.__class__, thing]


class Calls(Case):

    def call(self, made, call, named, by_position=False):
        """What is returned by one call, and the object behind it."""
        thing = None if made is None else made()
        function = call if callable(call) else getattr(thing, call)
        if callable(call) and made is not None:
            named = {"book": thing, **named}
        if by_position:
            order = [name for name in inspect.signature(function).parameters if name in named]
            self.assertEqual(sorted(order), sorted(named))
            return function(*[named[name] for name in order]), thing
        return function(**named), thing

    def test_the_kind_that_is_returned(self):
        for made, call, named, kind in CALLS:
            with self.subTest(call=call):
                found = self.call(made, call, named)[0]
                if kind is None:
                    self.assertIsNone(found)
                else:
                    self.assertIs(found.__class__, kind)

    def test_by_position_and_by_name_tuples_and_lists(self):
        for made, call, named, kind in CALLS:
            with self.subTest(call=call):
                rows = [self.call(made, call, arguments, by_position) for by_position in (False, True)
                        for arguments in (named, as_lists(named), named)]
                for found, thing in rows[1:]:
                    # The same call tells the same, and does the same.
                    self.assertEqual(state(found), state(rows[0][0]))
                    self.assertEqual(state(thing), state(rows[0][1]))

    def test_arguments_are_not_changed(self):
        for made, call, named, kind in CALLS:
            with self.subTest(call=call):
                lists = as_lists(named)
                before = state(lists)
                self.call(made, call, lists)
                self.assertEqual(state(lists), before)

    def test_later_changes_have_no_effect(self):
        for made, call, named, kind in CALLS:
            with self.subTest(call=call):
                lists = as_lists(named)
                found, thing = self.call(made, call, lists)
                before = (state(found), state(thing))
                emptied(lists)
                self.assertEqual((state(found), state(thing)), before)
                emptied(found)
                self.assertEqual(state(thing), before[1])
                if not callable(call):
                    self.assertEqual(state(self.call(made, call, named)[0]), before[0])

    def test_attributes_that_are_returned_can_be_changed(self):
        for made, call, named, kind in CALLS:
            found, thing = self.call(made, call, named)
            if kind in (Bound, Span, Combination, Reason):
                before, after = state(found), state(thing)
                emptied(vars(found))
                self.assertEqual(state(thing), after)
                self.assertEqual(state(self.call(made, call, named)[0]), before)

    def test_each_name_of_the_interface_is_called(self):
        called = {call if isinstance(call, str) else call.__name__ for made, call, named, kind in CALLS}
        for made in (Folders, Question, Store, Book, History, Keeper):
            # What is no part of the interface returns nothing that anybody is promised.
            free = {"go_on", "turn"}
            methods = {name for name, part in vars(made).items() if inspect.isfunction(part) and name[0] != "_"}
            self.assertEqual(methods - free - called, set())


class Objects(Case):

    def test_objects_of_one_kind_know_nothing_of_one_another(self):
        for made in (a_book, a_history, a_keeper):
            one, other = made(), made()
            before = state(other)
            self.assertEqual(state(one), before)
            for each, call, named, kind in CALLS:
                if each == made and isinstance(call, str) and call != "copy":
                    one = made()
                    getattr(one, call)(**named)
                    self.assertEqual(state(other), before)

    def test_a_book_and_its_copy(self):
        book = a_book()
        other = book.copy()
        before = state(book)
        other.drop(A)
        other[ALL] = 9
        self.assertEqual(state(book), before)
        book[ALL] = (None, 3)
        self.assertEqual((other[ALL], book[ALL], len(other), len(book)), ((9, 9), (None, 3), 2, 3))

    def test_questions_about_the_same_folders_made_anew(self):
        # Equal Folders are as good as the same ones.
        again = Folders(("a", "b"), chain=False)
        book, history, keeper = a_book(), a_history(), a_keeper()
        self.assertEqual(book.least(whole(again)).value, (5, 1))
        self.assertEqual(history.least(whole(again), 0).value, (5, 1))
        keeper.hold("again", whole(again))
        self.assertEqual(keeper.answer("again"), keeper.answer("all"))
        self.assertEqual((book[refers(again, ["a"])], history[refers(again, ["a"])]), ((5, 5), (1, None)))

    def test_truth_values_are_true_or_false(self):
        book = a_book()
        things = (AB, A, STORE, book, a_history(), a_keeper(), "a", ("a",), 1, None, [], {})
        for thing, other in itertools.product(things, things):
            self.assertIn(thing == other, (True, False))
            self.assertIs((thing == other).__class__, bool)
        for thing in things:
            for held in (AB, STORE, book):
                self.assertIs((thing in held).__class__, bool)
        self.assertIs((A <= B).__class__, bool)
        self.assertIs((STORE <= STORE).__class__, bool)


if __name__ == "__main__":
    unittest.main()
