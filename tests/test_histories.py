"""Points 23 and 24: the deeds of a history, its moments, threads, and the stores of a life."""

import random
import unittest
from fractions import Fraction

from helping import any_objects
from lives import LifeCase, do, history_of, some_deeds, some_life, some_start, threads_by_words

from blockshares.errors import BadFolders, BadName, NoFolder, NoMoment, Taken
from blockshares.folders import Folders
from blockshares.histories import History
from blockshares.questions import just, whole
from blockshares.stores import Store

A = Folders(["a"])
AB = Folders(["a", "b"])
BA = Folders(["b", "a"])
ABC = Folders(["a", "b", "c"])
CHAIN = Folders(["a", "b", "c"], chain=True)
FIVE = Folders(list("abcde"))


class Deeds(LifeCase):

    def test_a_new_history(self):
        history = History(folders=ABC)
        self.assertEqual((history.folders, len(history), history.told()), (ABC, 0, []))
        self.assertEqual(history.folders_at(0), ABC)

    def test_folders_of_each_moment(self):
        history = History(AB)
        for call, names in (
                (lambda: history.write(name="a"), "ab"), (lambda: history.copy(name="a", new="d"), "adb"),
                (lambda: history.leave(name="d"), "adb"), (lambda: history.strike(names=("a",)), "db"),
                (lambda: history.strike([]), "db"), (lambda: history.copy("b", "a"), "dba")):
            many = len(history)
            self.assertIsNone(call())
            self.assertEqual((len(history), history.folders), (many + 1, Folders(list(names))))
        self.assertEqual([history.folders_at(moment).names for moment in range(7)], [
            ("a", "b"), ("a", "b"), ("a", "d", "b"), ("a", "d", "b"), ("d", "b"), ("d", "b"), ("d", "b", "a")])
        self.assertEqual(history.folders_at(None), history.folders)
        self.assertEqual(history.folders_at(moment=6), history.folders)

    def test_chains_stay_chains(self):
        history = History(CHAIN)
        history.copy("b", "new")
        self.assertEqual(history.folders, Folders(["a", "b", "new", "c"], chain=True))
        history.strike(["b", "new", "b"])
        self.assertEqual(history.folders, Folders(["a", "c"], chain=True))
        self.assertEqual(history.folders_at(0), CHAIN)

    def after(self, history):
        return (len(history), history.folders, history.threads(), history.told())

    def refused(self, history, error, held, call, *args):
        """The deed is refused, and leaves no moment."""
        before = self.after(history)
        self.refuses(error, held, call, *args)
        self.assertEqual(self.after(history), before)

    def histories(self):
        """Histories at their beginning, and behind some deeds."""
        for folders in (ABC, CHAIN):
            yield History(folders)
            yield history_of(folders, [("write", "b"), ("copy", "a", "d"), ("strike", ["d"]), ("leave", "c")])

    def test_no_folder(self):
        for history in self.histories():
            for thing in any_objects() + ["d", 0, ["a"], ("a",)]:
                with self.subTest(thing=thing):
                    for call in (history.write, history.leave):
                        self.refused(history, NoFolder, {"name": thing}, call, thing)
                    # Ahead of BadName and Taken.
                    for new in (None, "a", "z"):
                        self.refused(history, NoFolder, {"name": thing}, history.copy, thing, new)
                    # Ahead of BadFolders.
                    self.refused(history, NoFolder, {"name": thing}, history.strike, ["a", "b", "c", thing, "x"])

    def test_bad_names(self):
        for history in self.histories():
            for thing in any_objects() + [0, ["d"], ("d",)]:
                with self.subTest(thing=thing):
                    self.refused(history, BadName, {"name": thing}, history.copy, "a", thing)

    def test_taken(self):
        for history in self.histories():
            for name in "abc":
                self.refused(history, Taken, {"name": name}, history.copy, "b", name)

    def test_no_folders_left(self):
        for history in self.histories():
            for names in (["a", "b", "c"], ("c", "a", "a", "b")):
                self.refused(history, BadFolders, {"index": 0}, history.strike, names)

    def test_too_many_folders(self):
        history = History(FIVE)
        self.refused(history, BadFolders, {"index": 5}, history.copy, "a", "f")
        self.refused(history, Taken, {"name": "e"}, history.copy, "a", "e")
        history = History(Folders(list("abcdefghijkl"), chain=True))
        self.refused(history, BadFolders, {"index": 12}, history.copy, "c", "m")

    def test_no_moment(self):
        history = history_of(AB, [("write", "a"), ("copy", "a", "d"), ("leave", "b")])
        for thing in any_objects() + ["0", 4, 5, 10 ** 25, (0, 1)]:
            if thing is not None:
                with self.subTest(thing=thing):
                    self.refused(history, NoMoment, {"moment": thing}, history.folders_at, thing)
                    self.refused(history, NoMoment, {"moment": thing}, history.store_at, {}, thing)
        self.refuses(NoMoment, {"moment": 1}, History(AB).folders_at, 1)

    def test_names_are_copied(self):
        history, names = History(ABC), ["b"]
        history.strike(names)
        names.append("c")
        self.assertEqual((history.folders.names, history.threads()), (("a", "c"), history_of(ABC, [
            ("strike", ["b"])]).threads()))

    def test_two_histories_know_nothing_of_one_another(self):
        one, other = History(AB), History(AB)
        one.write("a")
        one[whole(AB)] = 3
        self.assertEqual((len(other), other.told(), other.threads()), (0, [], History(AB).threads()))
        other.copy("b", "c")
        self.assertEqual((len(one), one.folders, one.told()), (1, AB, [(1, whole(AB), 3, 3)]))


class Threads(LifeCase):

    def test_each_deed_alone(self):
        a, b, ab = ("a",), ("b",), ("a", "b")
        for deed, threads in (
                (("write", "a"), [((), a), (a, a), (ab, ab), (b, b)]),
                (("leave", "a"), [(a, ()), (a, a), (ab, ab), (ab, b), (b, b)]),
                (("leave", "b"), [(a, a), (ab, a), (ab, ab), (b, ()), (b, b)]),
                (("copy", "a", "c"), [(a, ("a", "c")), (ab, ("a", "c", "b")), (b, b)]),
                (("strike", ["b"]), [(a, a), (ab, a), (b, ())]),
                (("strike", []), [(a, a), (ab, ab), (b, b)])):
            with self.subTest(deed=deed):
                self.assertEqual(history_of(AB, [deed]).threads(), threads)

    def test_at_the_beginning(self):
        self.assertEqual(History(A).threads(), [(("a",),)])
        # As Python orders tuples, not as lots stand.
        self.assertEqual(History(BA).threads(), [(("a",),), (("b",),), (("b", "a"),)])
        self.assertEqual(History(CHAIN).threads(), [
            (("a",),), (("a", "b"),), (("a", "b", "c"),), (("b",),), (("b", "c"),), (("c",),)])

    def test_what_lies_in_no_folder_stays_so(self):
        a = ("a",)
        self.assertEqual(history_of(A, [("leave", "a"), ("write", "a")]).threads(), [
            ((), (), a), (a, (), ()), (a, a, a)])
        self.assertEqual(history_of(A, [("write", "a"), ("leave", "a"), ("write", "a")]).threads(), [
            ((), (), (), a), ((), a, (), ()), ((), a, a, a), (a, a, (), ()), (a, a, a, a)])

    def test_neighbours_of_a_chain(self):
        history = history_of(CHAIN, [("leave", "b")])
        abc = ("a", "b", "c")
        self.assertEqual([thread for thread in history.threads() if thread[0] == abc], [(abc, abc)])
        history.strike(["a"])
        history.leave("b")
        self.assertEqual([thread for thread in history.threads() if thread[0] == abc], [
            (abc, abc, ("b", "c"), ("b", "c")), (abc, abc, ("b", "c"), ("c",))])
        history = history_of(ABC, [("leave", "b")])
        self.assertEqual([thread for thread in history.threads() if thread[0] == abc], [(abc, abc), (abc, ("a", "c"))])

    def test_against_the_words_of_the_document(self):
        chance = random.Random(24)
        most = 0
        for k in range(300):
            folders = some_start(chance)
            deeds = some_deeds(folders, chance, chance.randrange(6))
            threads = history_of(folders, deeds).threads()
            self.assertEqual(threads, threads_by_words(folders, deeds))
            self.assertEqual(threads, sorted(threads))
            lots = [lot for thread in threads for lot in thread]
            self.assertEqual({thing.__class__ for thing in threads + lots}, {tuple})
            most = max(most, len(threads))
        self.assertGreater(most, 25)

    def test_lists_are_new(self):
        history = history_of(AB, [("write", "a")])
        threads = history.threads()
        history.threads().clear()
        self.assertEqual(history.threads(), threads)
        history.leave("b")
        self.assertNotEqual(history.threads(), threads)
        self.assertEqual([len(thread) for thread in threads], [2, 2, 2, 2])


class StoreAt(LifeCase):

    def test_each_moment(self):
        history = history_of(AB, [("write", "b"), ("copy", "a", "c"), ("leave", "c"), ("strike", ["a"])])
        a, b, c, ab, ac, cb, acb = ("a",), ("b",), ("c",), ("a", "b"), ("a", "c"), ("c", "b"), ("a", "c", "b")
        life = {(a, a, ac, a, ()): 1, (ab, ab, acb, acb, cb): [6, 4], ((), b, b, b, b): (2, 1), (a, a, ac, ac, c): 4,
                (ab, ab, acb, ab, b): 0}
        self.assertEqual([history.store_at(life, moment).sizes() for moment in range(5)], [
            {a: (5, 1), ab: (3, 2)}, {a: (5, 1), b: (2, 1), ab: (3, 2)}, {b: (2, 1), ac: (5, 1), acb: (3, 2)},
            {a: (1, 1), b: (2, 1), ac: (4, 1), acb: (3, 2)}, {c: (4, 1), b: (2, 1), cb: (3, 2)}])
        self.assertEqual(history.store_at(life=life, moment=None), history.store_at(life, 4))
        self.assertEqual(history.store_at(life), history.store_at(life, 4))
        self.assertEqual(history.store_at(life, moment=3).folders, Folders(["a", "c", "b"]))
        self.assertEqual(life[(ab, ab, acb, acb, cb)], [6, 4])

    def test_lots_in_any_order(self):
        history = history_of(ABC, [("copy", "a", "d"), ("leave", "b")])
        life = {
            (("c", "b", "a"), ("d", "c", "b", "a"), ("c", "d", "a")): 3,
            (("b", "a"), ("b", "a", "d"), ("b", "d", "a")): 5}
        self.assertEqual([history.store_at(life, moment).sizes() for moment in range(3)], [
            {("a", "b"): (5, 1), ("a", "b", "c"): (3, 1)}, {("a", "d", "b"): (5, 1), ("a", "d", "b", "c"): (3, 1)},
            {("a", "d", "b"): (5, 1), ("a", "d", "c"): (3, 1)}])

    def test_lives_of_nothing(self):
        history = history_of(CHAIN, [("write", "b"), ("strike", ["b"])])
        for moment, folders in ((0, CHAIN), (1, CHAIN), (None, Folders(["a", "c"], chain=True))):
            self.assertEqual(history.store_at({}, moment), Store(folders))

    def test_no_moment(self):
        history = history_of(AB, [("write", "a")])
        for moment in (-1, 2, True, "1", [0], (0, 1)):
            self.refuses(NoMoment, {"moment": moment}, history.store_at, some_life(history, random.Random(0)), moment)

    def test_stores_of_a_life_follow_each_other_by_deeds(self):
        chance = random.Random(11)
        for k in range(150):
            folders = some_start(chance)
            deeds = some_deeds(folders, chance, chance.randrange(6))
            history = history_of(folders, deeds)
            life = {thread: (chance.randrange(1, 9), chance.randrange(1, 4)) for thread in history.threads()}
            for at, deed in enumerate(deeds):
                store = history.store_at(life, at)
                for thread, size in life.items():
                    if deed[0] == "write" and thread[at] != thread[at + 1]:
                        store = store.write(deed[1], size)
                    if deed[0] == "leave" and thread[at] != thread[at + 1]:
                        store = store.leave(deed[1], thread[at], size)
                if deed[0] in ("copy", "strike"):
                    store = getattr(store, deed[0])(*deed[1:])
                self.assertEqual(history.store_at(life, at + 1), store)

    def test_stores_that_follow_each_other_by_deeds_have_a_life(self):
        chance = random.Random(12)
        for k in range(60):
            folders = some_start(chance)
            history = History(folders)
            stores = [Store(folders, {lot: chance.randrange(4) for lot in folders.lots()})]
            for deed in [None] + some_deeds(folders, chance, chance.randrange(5)):
                if deed is not None:
                    do(history, deed)
                    stores.append(self.store_behind(stores[-1], deed, chance))
                for lot in history.folders.lots():
                    history[just(history.folders, lot)] = stores[-1][lot][0]
            life = history.fits()
            self.assertIsNone(history.wrong())
            self.assertEqual([history.store_at(life, at) for at in range(len(stores))], stores)

    def store_behind(self, store, deed, chance):
        """A store that a deed may leave, with drawn amounts."""
        if deed[0] == "write":
            return store.write(deed[1], chance.randrange(3))
        if deed[0] != "leave":
            return getattr(store, deed[0])(*deed[1:])
        left = store
        for lot in store.folders.lots():
            rest = tuple([name for name in lot if name != deed[1]])
            if deed[1] in lot and (not rest or rest in store.folders.lots()):
                left = left.leave(deed[1], lot, chance.randrange(int(Fraction(*store[lot])) + 1))
        return left


if __name__ == "__main__":
    unittest.main()
