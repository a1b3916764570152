"""Point 7: the functions that ask, and points 9 to 11 as these questions see them."""

import itertools
import unittest

from helping import Case, any_objects

from blockshares.errors import NoFolder, UnlikeFolders
from blockshares.folders import Folders
from blockshares.questions import Question, freed, just, refers, sent, shared, whole
from blockshares.stores import Store

ALL = [Folders(list(names), chain=chain) for chain in (False, True) for names in ("a", "ab", "cab", "dbca", "ebcad")]
ALL.append(Folders(list("lbcdefghijka"), chain=True))
ABC = Folders(["a", "b", "c"])
CHAIN = Folders(["a", "b", "c"], chain=True)
ASKING = (refers, freed, shared, just)


def counted(folders, test):
    """The counts of the question that counts those lots once whose sets pass the test."""
    return {lot: 1 for lot in folders.lots() if test(set(lot))}


def parts(names):
    """All choices of some names; of very many names just some choices."""
    found = [list(part) for many in range(min(len(names), 5) + 1) for part in itertools.combinations(names, many)]
    return found if len(found) < 40 else found[:30:3] + found[30::97]


class WhichBlocksCount(Case):

    def test_all_functions_for_all_names(self):
        for folders in ALL:
            for names in parts(folders.names):
                named = set(names)
                expected = (
                    counted(folders, lambda lot: lot & named), counted(folders, lambda lot: lot <= named),
                    counted(folders, lambda lot: named <= lot), counted(folders, lambda lot: lot == named))
                for function, counts in zip(ASKING, expected):
                    with self.subTest(function=function.__name__, names=names, folders=folders.names):
                        for told in (names, tuple(names[::-1]), names + names, names[:1] + names[::-1]):
                            question = function(folders, told)
                            self.assertEqual(list(question.counts().items()), list(counts.items()))
                            self.assertEqual(question.folders, folders)

    def test_without_names(self):
        for folders in ALL:
            for names in ([], ()):
                self.assertEqual(refers(folders, names), Question(folders))
                self.assertEqual(freed(folders, names), Question(folders))
                self.assertEqual(just(folders, names), Question(folders))
                self.assertEqual(shared(folders, names), whole(folders))

    def test_just_of_no_lot(self):
        self.assertEqual(just(CHAIN, ["c", "a"]), Question(CHAIN))
        self.assertEqual(just(ABC, ["c", "a"]), Question(ABC, {("a", "c"): 1}))
        self.assertEqual(just(CHAIN, ["c", "b", "c"]), Question(CHAIN, {("b", "c"): 1}))

    def test_sent(self):
        for folders in ALL:
            for one, other in itertools.product(folders.names, repeat=2):
                self.assertEqual(
                    list(sent(folders, one, other).counts().items()),
                    list(counted(folders, lambda lot: other in lot and one not in lot).items()))
        self.assertEqual(sent(folders=CHAIN, one="b", other="a").counts(), {("a",): 1})
        self.assertEqual(sent(CHAIN, "a", "a"), Question(CHAIN))

    def test_whole(self):
        for folders in ALL:
            self.assertEqual(list(whole(folders=folders).counts().items()), [(lot, 1) for lot in folders.lots()])

    def test_arguments_by_name(self):
        for function in ASKING:
            self.assertEqual(function(names=("b",), folders=ABC), function(ABC, ["b"]))


class WrongNames(Case):

    def test_no_folder(self):
        for thing in any_objects() + ["d", 0, ["b"], ("a",)]:
            for function in ASKING:
                with self.subTest(function=function.__name__, thing=thing):
                    self.refuses(NoFolder, {"name": thing}, function, ABC, ["b", thing, "x"])
                    self.refuses(NoFolder, {"name": thing}, function, CHAIN, (thing, "b"))
            with self.subTest(function="sent", thing=thing):
                self.refuses(NoFolder, {"name": thing}, sent, ABC, thing, "b")
                self.refuses(NoFolder, {"name": thing}, sent, ABC, thing, "x")
                self.refuses(NoFolder, {"name": thing}, sent, CHAIN, "b", thing)

    def test_what_is_no_list(self):
        # Not told by the document: it is refused as a folder.
        for function in ASKING:
            for thing in ("ab", "", None, 3, {"a": 1}, ABC):
                self.refuses(NoFolder, {"name": thing}, function, ABC, thing)

    def test_names_stay_as_they_were(self):
        for function in ASKING:
            names = ["c", "b", "c"]
            question = function(ABC, names)
            self.assertEqual(names, ["c", "b", "c"])
            names.append("a")
            self.assertEqual(question, function(ABC, ["b", "c"]))


class AsStoresAnswer(Case):

    def setUp(self):
        self.stores = [
            Store(folders, {lot: (3 ** at, at % 3 + 1) for at, lot in enumerate(folders.lots()) if at % 5 != 1})
            for folders in ALL]

    def answer(self, store, test):
        """A store with the sum of the sizes of those lots whose sets pass the test, the same sum as a fraction."""
        total = Store(Folders(["x"]))
        for lot, size in store.sizes().items():
            if test(set(lot)):
                total = total.write("x", size)
        return total.total()

    def test_answers(self):
        for store in self.stores:
            folders = store.folders
            for names in parts(folders.names):
                named = set(names)
                self.assertEqual(store(refers(folders, names)), self.answer(store, lambda lot: lot & named))
                self.assertEqual(store(freed(folders, names)), self.answer(store, lambda lot: lot <= named))
                self.assertEqual(store(shared(folders, names)), self.answer(store, lambda lot: lot >= named))
                self.assertEqual(store(just(folders, names)), self.answer(store, lambda lot: lot == named))
                both = refers(folders, names) + freed(folders, names)
                self.assertEqual(store(both - freed(folders, names)), store(refers(folders, names)))
                self.assertEqual(store(both - both), (0, 1))
                self.assertEqual(store(whole(folders) - freed(folders, names)),
                                 store(refers(folders, [name for name in folders.names if name not in named])))
            self.assertEqual(store(whole(folders)), store.total())
            one, other = folders.names[0], folders.names[-1]
            self.assertEqual(store(sent(folders, one, other)),
                             self.answer(store, lambda lot: other in lot and one not in lot))
            self.refuses(UnlikeFolders, {}, store, whole(Folders(["x"])))

    def test_what_some_see(self):
        for store in self.stores:
            for kept in parts(store.folders.names)[1:]:
                seen = store & kept
                self.assertEqual(seen.total(), store(refers(store.folders, kept)))
                for names in parts(kept):
                    self.assertEqual(seen(refers(seen.folders, names)), store(refers(store.folders, names)))
                    if len(names) > 0:
                        self.assertEqual(seen(shared(seen.folders, names)), store(shared(store.folders, names)))
                self.assertEqual(seen(sent(seen.folders, kept[0], kept[-1])),
                                 store(sent(store.folders, kept[0], kept[-1])))

    def test_strike(self):
        for store in self.stores:
            for names in parts(store.folders.names):
                if len(names) < len(store.folders):
                    struck = store.strike(names)
                    lost = Store(Folders(["x"]), {("x",): store(freed(store.folders, names))})
                    self.assertEqual(lost.write("x", struck.total()).total(), store.total())
                    for more in struck.folders.names:
                        both = freed(store.folders, names + [more]) - freed(store.folders, names)
                        self.assertEqual(struck(freed(struck.folders, [more])), store(both))

    def test_other_deeds(self):
        for store in self.stores:
            folders, name = store.folders, store.folders.names[0]
            more = store.write(name, (1, 2))
            self.assertEqual(more(just(folders, [name])), self.plus(store(just(folders, [name])), (1, 2)))
            self.assertEqual(more(sent(folders, name, folders.names[-1])),
                             store(sent(folders, name, folders.names[-1])))
            less = more.leave(name, (name,), (1, 2))
            self.assertEqual(less(refers(folders, [name])), store(refers(folders, [name])))
            named = store.rename(name, "x")
            self.assertEqual(named(refers(named.folders, ["x"])), store(refers(folders, [name])))
            if len(folders) not in (5, 12):
                both = store.copy(name, "x")
                self.assertEqual(both(freed(both.folders, [name])), (0, 1))
                self.assertEqual(both(freed(both.folders, [name, "x"])), store(freed(folders, [name])))
                self.assertEqual(both(shared(both.folders, [name, "x"])), store(refers(folders, [name])))
                self.assertEqual(both(sent(both.folders, "x", name)), (0, 1))

    def plus(self, one, other):
        return Store(Folders(["x"]), {("x",): one}).write("x", other).total()


if __name__ == "__main__":
    unittest.main()
