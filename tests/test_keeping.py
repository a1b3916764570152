"""Points 26 and 27: keepers, deeds that are done, taken back and done again, and the news."""

import random
import unittest

from helping import Case, any_objects

from blockshares.books import Book
from blockshares.errors import (
    BadDeed, BadFolders, BadLot, BadName, BadSize, Held, NoDeed, NoFolder, NotHeld, Taken)
from blockshares.folders import Folders
from blockshares.keeping import Keeper
from blockshares.questions import Question, freed, refers, shared, whole
from blockshares.stores import Store

AB = Folders(["a", "b"])
ABC = Folders(["a", "b", "c"])
CHAIN = Folders(["a", "b", "c"], chain=True)
STORE = Store(ABC, {("a",): 1, ("b",): 2, ("a", "b"): 8, ("b", "c"): (1, 2), ("a", "b", "c"): 64})
DEEDS = (
    ("strike", ("b",)), ("copy", "a", "d"), ("write", "a", 3), ("share", ("a", "b"), (1, 2)),
    ("leave", "a", ("a", "b"), 5), ("rename", "b", "z"))
BAD_DEEDS = [
    (), [], ("strike",), ("copy", "a"), ("write", "a"), ("share", ("a",)), ("leave", "a", ("a",)), ("rename", "a"),
    ("strike", ["a"], ["b"]), ("copy", "a", "d", "e"), ("write", "a", 1, 2), ("share", ("a",), 1, 1), ("STRIKE", ["a"]),
    ("leave", "a", ("a",), 1, None), ("rename", "a", "z", "z"), "strike", "copy", ("of_sizes", {}, {}), ("total",),
    ("sizes",), ("stroke", ["a"]), (["strike"], ["a"]), (("copy",), "a", "d"), (None, "a", "d"), ({}, "a", "d"),
    (STORE, ["a"]), {"strike": ["a"]}, ("strike", "a"), ("strike", "abc"), ("strike", {"a": 1}), ("strike", None),
    ("strike", 3), ("strike", True), ("strike", ABC), ("strike", STORE), ("", "a", "d"), (2, "a", "d"), (ABC, "a", 1)]


def everything(keeper):
    """All that a keeper tells, but for undo and again."""
    return (keeper.present(), keeper.kept(), [keeper.answer(name) for name in keeper.kept()], keeper.deeds())


class Holding(Case):

    def test_present(self):
        self.assertEqual(Keeper(store=STORE).present(), STORE)
        self.assertEqual(Keeper(Store(CHAIN)).present(), Store(CHAIN))

    def test_hold_and_drop(self):
        keeper = Keeper(STORE)
        self.assertEqual(keeper.kept(), [])
        for name in ("m", "zz", "a", "b", "abcdefgh", "z"):
            self.assertIsNone(keeper.hold(name=name, question=refers(ABC, ["a"])))
        self.assertEqual(keeper.kept(), ["a", "abcdefgh", "b", "m", "z", "zz"])
        self.assertIsNone(keeper.drop(name="b"))
        self.assertIsNone(keeper.drop("a"))
        self.assertEqual(keeper.kept(), ["abcdefgh", "m", "z", "zz"])
        keeper.hold("b", whole(ABC))
        self.assertEqual((keeper.kept(), keeper.answer("b")), (["abcdefgh", "b", "m", "z", "zz"], (151, 2)))
        self.assertEqual(keeper.deeds(), [])

    def test_answers(self):
        keeper = Keeper(STORE)
        keeper.hold("one", refers(ABC, ["c"]))
        keeper.hold("two", whole(CHAIN))
        keeper.hold("three", whole(AB))
        keeper.hold("four", Question(ABC))
        self.assertEqual([keeper.answer(name) for name in ("one", "two", "three", "four")], [
            (129, 2), None, None, (0, 1)])
        keeper.do(("strike", ["c"]))
        self.assertEqual([keeper.answer(name=name) for name in ("one", "two", "three", "four")], [
            None, None, (151, 2), None])

    def test_bad_names_and_held_ones(self):
        keeper = Keeper(STORE)
        keeper.hold("a", whole(ABC))
        before = everything(keeper)
        for thing in any_objects() + [0, ["a"], ("a",)]:
            with self.subTest(thing=thing):
                self.refuses(BadName, {"name": thing}, keeper.hold, thing, whole(ABC))
        self.refuses(Held, {"name": "a"}, keeper.hold, "a", refers(AB, ["a"]))
        self.assertEqual(everything(keeper), before)
        self.assertEqual(keeper.answer("a"), (151, 2))

    def test_names_that_are_not_held(self):
        keeper = Keeper(STORE)
        keeper.hold("a", whole(ABC))
        before = everything(keeper)
        for thing in any_objects() + ["b", "aa", 0, ["a"], ("a",)]:
            with self.subTest(thing=thing):
                self.refuses(NotHeld, {"name": thing}, keeper.drop, thing)
                self.refuses(NotHeld, {"name": thing}, keeper.answer, thing)
        self.assertEqual(everything(keeper), before)
        keeper.drop("a")
        self.refuses(NotHeld, {"name": "a"}, keeper.drop, "a")
        self.refuses(NotHeld, {"name": "a"}, keeper.answer, "a")

    def test_lists_are_new(self):
        keeper = Keeper(STORE)
        keeper.hold("a", whole(ABC))
        keeper.do(("write", "a", 1))
        for call in (keeper.kept, keeper.deeds, lambda: keeper.would([("write", "b", 1)])):
            found = call()
            call().clear()
            self.assertEqual((call(), len(found)), (found, 1))

    def test_two_keepers_know_nothing_of_one_another(self):
        one, other = Keeper(STORE), Keeper(STORE)
        one.hold("a", whole(ABC))
        one.do(("write", "a", 1))
        self.assertEqual(everything(other), (STORE, [], [], []))
        self.refuses(NoDeed, {}, other.undo)
        self.assertEqual(STORE["a",], (1, 1))


class Doing(Case):

    def keeper(self):
        keeper = Keeper(STORE)
        for name, question in (("whole", whole(ABC)), ("both", shared(ABC, ["a", "b"])), ("few", freed(ABC, ["c"])),
                               ("less", refers(AB, ["b"]))):
            keeper.hold(name, question)
        return keeper

    def test_each_word(self):
        for deed, store in zip(DEEDS, (
                STORE.strike(["b"]), STORE.copy("a", "d"), STORE.write("a", 3), STORE.share(("a", "b"), (1, 2)),
                STORE.leave("a", ("a", "b"), 5), STORE.rename("b", "z"))):
            keeper = Keeper(STORE)
            self.assertEqual(keeper.do(deed=deed), [])
            self.assertEqual((keeper.present(), keeper.deeds()), (store, [deed]))
            keeper = Keeper(STORE)
            keeper.do(list(deed))
            self.assertEqual((keeper.present(), keeper.deeds()), (store, [deed]))

    def test_news(self):
        keeper = self.keeper()
        self.assertEqual(keeper.do(("write", "a", 3)), [("whole", (157, 2))])
        self.assertEqual(keeper.do(("share", ["b", "a"], (1, 2))), [("both", (145, 2)), ("whole", (79, 1))])
        self.assertEqual(keeper.do(("write", "a", 0)), [])
        self.assertEqual(keeper.do(("strike", [])), [])
        self.assertEqual(keeper.do(("leave", "b", ("c", "b"), (1, 2))), [("few", (1, 2))])
        self.assertEqual(keeper.do(("strike", ["c"])), [
            ("both", None), ("few", None), ("less", (149, 2)), ("whole", None)])
        self.assertEqual(keeper.do(("copy", "b", "c")), [
            ("both", (145, 2)), ("few", (0, 1)), ("less", None), ("whole", (157, 2))])
        self.assertEqual(keeper.undo(), [("both", None), ("few", None), ("less", (149, 2)), ("whole", None)])
        self.assertEqual(keeper.undo(), [
            ("both", (145, 2)), ("few", (1, 2)), ("less", None), ("whole", (79, 1))])
        self.assertEqual(keeper.undo(), [("few", (0, 1))])
        self.assertEqual(keeper.again(), [("few", (1, 2))])
        self.assertEqual(len(keeper.deeds()), 5)

    def test_news_of_what_is_held_then(self):
        keeper = self.keeper()
        keeper.do(("write", "a", 3))
        # To hold and to drop are no deeds: they are not taken back.
        keeper.drop("whole")
        keeper.hold("mine", refers(ABC, ["a"]))
        self.assertEqual(keeper.undo(), [("mine", (73, 1))])
        keeper.hold("all", whole(ABC))
        self.assertEqual(keeper.again(), [("all", (157, 2)), ("mine", (76, 1))])
        self.assertEqual(keeper.kept(), ["all", "both", "few", "less", "mine"])

    def test_undo_and_again(self):
        keeper = Keeper(STORE)
        stores = [STORE]
        deeds = [DEEDS[2], DEEDS[4], DEEDS[1], DEEDS[5]]
        for deed in deeds:
            keeper.do(deed)
            stores.append(keeper.present())
        for many in (3, 2, 1):
            keeper.undo()
            self.assertEqual((keeper.present(), keeper.deeds()), (stores[many], deeds[:many]))
        for many in (2, 3, 4):
            keeper.again()
            self.assertEqual((keeper.present(), keeper.deeds()), (stores[many], deeds[:many]))
        self.refuses(NoDeed, {}, keeper.again)
        for k in range(4):
            keeper.undo()
        self.refuses(NoDeed, {}, keeper.undo)
        self.assertEqual(everything(keeper), (STORE, [], [], []))
        keeper.again()
        self.assertEqual(keeper.deeds(), [DEEDS[2]])

    def test_a_new_deed_behind_an_undo(self):
        keeper = Keeper(STORE)
        keeper.do(("write", "a", 1))
        keeper.do(("write", "b", 1))
        keeper.undo()
        keeper.do(("strike", []))
        self.refuses(NoDeed, {}, keeper.again)
        self.assertEqual(keeper.deeds(), [("write", "a", 1), ("strike", ())])
        keeper.undo()
        keeper.undo()
        self.assertEqual(keeper.present(), STORE)

    def test_a_deed_that_raises_an_error_is_none(self):
        keeper = self.keeper()
        keeper.do(("write", "a", 1))
        keeper.do(("write", "b", 1))
        keeper.undo()
        for deed in [("write", "x", 1), ("strike", ["a", "b", "c"]), ("copy", "a", "b")] + BAD_DEEDS:
            self.assertRaises((NoFolder, BadFolders, Taken, BadDeed), keeper.do, deed)
        self.assertEqual(keeper.deeds(), [("write", "a", 1)])
        # So what was taken back can still be done again.
        self.assertEqual(keeper.again(), [("whole", (155, 2))])
        self.refuses(NoDeed, {}, keeper.again)
        self.assertEqual(keeper.present(), STORE.write("a", 1).write("b", 1))

    def test_no_deed(self):
        keeper = self.keeper()
        before = everything(keeper)
        self.refuses(NoDeed, {}, keeper.undo)
        self.refuses(NoDeed, {}, keeper.again)
        self.assertEqual(everything(keeper), before)

    def test_deeds_are_tuples_as_they_were_passed(self):
        keeper = Keeper(STORE)
        passed = [
            ["strike", ["c", "c"]], ("write", "a", [2, 4]), ["share", ["b", "a"], (0, 3)],
            ["leave", "b", ["b", "a"], [4, 1]], ("copy", "a", "d"), ["rename", "d", "e"]]
        for deed in passed:
            keeper.do(deed)
        expected = [
            ("strike", ("c", "c")), ("write", "a", (2, 4)), ("share", ("b", "a"), (0, 3)),
            ("leave", "b", ("b", "a"), (4, 1)), ("copy", "a", "d"), ("rename", "d", "e")]
        self.assertEqual(keeper.deeds(), expected)
        # What was passed, and what was returned, may be changed.
        passed[0][1].append("a")
        passed[1][2][0] = 7
        passed[3][2].clear()
        keeper.deeds().clear()
        self.assertEqual(keeper.deeds(), expected)
        while keeper.deeds():
            keeper.undo()
        for deed in expected:
            keeper.again()
        self.assertEqual(keeper.deeds(), expected)
        self.assertEqual(keeper.present(), STORE.strike(["c"]).write("a", (1, 2)).leave("b", ("a", "b"), 4).copy(
            "a", "e"))


class BadDeeds(Case):

    def setUp(self):
        self.keeper = Keeper(STORE)
        self.keeper.hold("a", whole(ABC))
        self.keeper.do(("write", "a", 1))
        self.keeper.do(("write", "a", 2))
        self.keeper.undo()
        self.before = everything(self.keeper)

    def tearDown(self):
        self.assertEqual(everything(self.keeper), self.before)
        self.assertEqual(self.keeper.again(), [("a", (157, 2))])

    def refused(self, error, held, deed):
        """The deed is refused, done alone, and as one that would be done."""
        self.refuses(error, held, self.keeper.do, deed)
        self.refuses(error, held, self.keeper.would, [deed])
        self.refuses(error, held, self.keeper.would, (("strike", []), deed, ("nothing",)))

    def test_what_is_no_deed(self):
        for thing in any_objects() + BAD_DEEDS + ["strike", 0]:
            with self.subTest(thing=thing):
                self.refused(BadDeed, {"deed": thing}, thing)

    def test_errors_of_each_deed(self):
        for thing in any_objects() + ["d", 0, ["a"], ("a",)]:
            with self.subTest(thing=thing):
                for deed in (("strike", ["a", thing]), ("copy", thing, "a"), ("write", thing, -1),
                             ("leave", thing, ("a",), -1), ["rename", thing, None]):
                    self.refused(NoFolder, {"name": thing}, deed)
        for thing in any_objects() + [0, ["d"]]:
            with self.subTest(thing=thing):
                for deed in (("copy", "a", thing), ("rename", "a", thing)):
                    self.refused(BadName, {"name": thing}, deed)
        for thing in any_objects() + ["a", 0, ("a", "d")]:
            with self.subTest(thing=thing):
                for deed in (("share", thing, -1), ("leave", "a", thing, 0)):
                    self.refused(BadLot, {"lot": thing}, deed)
        for thing in any_objects() + ["a", (1,)]:
            with self.subTest(thing=thing):
                for deed in (("write", "a", thing), ("share", ("a",), thing), ("leave", "a", ("a", "b"), thing)):
                    self.refused(BadSize, {"size": thing}, deed)
        self.refused(BadFolders, {"index": 0}, ("strike", ["c", "b", "a"]))
        self.refused(Taken, {"name": "b"}, ("copy", "a", "b"))
        self.refused(Taken, {"name": "a"}, ("rename", "a", "a"))
        self.refused(BadSize, {"size": 9}, ("leave", "a", ("a", "b"), 9))

    def test_would_of_what_is_no_list(self):
        for thing in any_objects() + ["strike", 0]:
            if not isinstance(thing, (list, tuple)):
                with self.subTest(thing=thing):
                    self.refuses(BadDeed, {"deed": thing}, self.keeper.would, thing)

    def test_would_raises_the_first_error(self):
        would = self.keeper.would
        self.refuses(NoFolder, {"name": "d"}, would, [("write", "d", 1), 3])
        self.refuses(BadDeed, {"deed": 3}, would, [3, ("write", "d", 1)])
        # Deeds are done one behind the other.
        self.assertEqual(would([("copy", "a", "d"), ("write", "d", 1), ("strike", ["d"])]), [])
        self.refuses(NoFolder, {"name": "b"}, would, [("strike", ["b"]), ("write", "b", 1), ("copy", "a", "a")])
        self.refuses(Taken, {"name": "d"}, would, [("copy", "a", "d"), ("copy", "b", "d")])
        self.refuses(BadFolders, {"index": 0}, would, [("strike", ["b", "c"]), ("strike", ["a"])])
        self.refuses(BadDeed, {"deed": "copy"}, would, ("copy", "a", "d"))


class Would(Case):

    def test_it_changes_nothing(self):
        keeper = Keeper(STORE)
        keeper.hold("a", whole(ABC))
        keeper.hold("b", whole(AB))
        keeper.do(("write", "a", 1))
        keeper.undo()
        before = everything(keeper)
        self.assertEqual(keeper.would(deeds=[]), [])
        self.assertEqual(keeper.would(()), [])
        deeds = [["write", "a", 1], ("strike", ["c"])]
        self.assertEqual(keeper.would(deeds), [("a", None), ("b", (153, 2))])
        self.assertEqual(deeds, [["write", "a", 1], ("strike", ["c"])])
        # Ahead of all and behind all: what happens between does not count.
        self.assertEqual(keeper.would([("write", "a", 1), ("leave", "a", ("a",), 1)]), [])
        deeds = [("rename", "c", "x"), ("rename", "x", "c"), ("write", "c", (1, 2))]
        self.assertEqual(keeper.would(deeds), [("a", (76, 1))])
        self.assertEqual(everything(keeper), before)
        self.assertEqual(keeper.again(), [("a", (153, 2))])


def some_deed(store, chance):
    """A deed that mostly can be done."""
    names = store.folders.names
    name, lot = chance.choice(names), chance.choice(store.folders.lots())
    size = chance.choice([0, 1, (3, 2), [1, 2], 5])
    return chance.choice([
        ("strike", [each for each in names if chance.random() < 0.3]), ("copy", name, chance.choice("abcdef")),
        ["write", name, size], ("share", list(lot), size), ("leave", chance.choice(lot), lot, size),
        ("rename", name, chance.choice("abcdef"))])


class DrawnOrders(Case):

    def store_of(self, start, deeds):
        """The store behind some deeds, by the methods of stores alone."""
        store = start
        for word, *things in deeds:
            store = getattr(store, word)(*things)
        return store

    def answers(self, held, store):
        return {name: store(held[name]) if store.folders == held[name].folders else None for name in sorted(held)}

    def news(self, held, before, after):
        old, new = self.answers(held, before), self.answers(held, after)
        return [(name, new[name]) for name in new if new[name] != old[name]]

    def test_against_a_list_of_deeds(self):
        chance = random.Random(27)
        counted = {"do": 0, "undo": 0, "again": 0, "refused": 0, "news": 0}
        for k in range(120):
            start = Store(chance.choice([AB, ABC, CHAIN]), {("a",): 3, ("a", "b"): 5})
            keeper = Keeper(start)
            held, done, undone = {}, [], []
            for step in range(25):
                before = self.store_of(start, done)
                act = chance.choice(["do", "do", "do", "undo", "undo", "again", "hold", "drop"])
                if act == "do":
                    deed = some_deed(before, chance)
                    try:
                        after = self.store_of(start, done + [deed])
                    except ValueError as error:
                        self.refuses(error.__class__, error.__dict__, keeper.do, deed)
                        self.refuses(error.__class__, error.__dict__, keeper.would, [deed])
                        counted["refused"] += 1
                        continue
                    self.assertEqual(keeper.would([deed]), self.news(held, before, after))
                    news = keeper.do(deed)
                    done, undone = done + [deed], []
                elif act in ("undo", "again"):
                    source, target = (done, undone) if act == "undo" else (undone, done)
                    if not source:
                        self.refuses(NoDeed, {}, getattr(keeper, act))
                        continue
                    target.append(source.pop())
                    news = getattr(keeper, act)()
                elif act == "hold":
                    name = chance.choice("pqrst")
                    if name not in held:
                        folders = chance.choice([AB, ABC, CHAIN, before.folders])
                        held[name] = refers(folders, [chance.choice(folders.names)])
                        keeper.hold(name, held[name])
                    continue
                else:
                    if held:
                        name = chance.choice(sorted(held))
                        keeper.drop(name)
                        del held[name]
                    continue
                after = self.store_of(start, done)
                self.assertEqual(news, self.news(held, before, after))
                self.assertEqual(keeper.present(), after)
                self.assertEqual(keeper.kept(), sorted(held))
                self.assertEqual({name: keeper.answer(name) for name in keeper.kept()}, self.answers(held, after))
                self.assertEqual(len(keeper.deeds()), len(done))
                self.assertEqual(self.store_of(start, keeper.deeds()), after)
                counted[act] += 1
                counted["news"] += news != []
        self.assertGreater(min(counted.values()), 50)

    def test_would_against_the_same_deeds_done(self):
        chance = random.Random(28)
        many = 0
        for k in range(150):
            start = Store(chance.choice([AB, ABC, CHAIN]), {("a",): 3, ("a", "b"): 5})
            keeper, other = Keeper(start), Keeper(start)
            for one in (keeper, other):
                one.hold("x", whole(ABC))
                one.hold("u", refers(AB, ["b"]))
                one.hold("m", shared(CHAIN, ["a"]))
            deeds = [some_deed(start, chance) for step in range(chance.randrange(6))]
            before = {name: keeper.answer(name) for name in keeper.kept()}
            error = None
            for deed in deeds:
                try:
                    other.do(deed)
                except ValueError as raised:
                    error = raised
                    break
            if error is not None:
                self.refuses(error.__class__, error.__dict__, keeper.would, deeds)
            else:
                many += 1
                self.assertEqual(keeper.would(deeds), [
                    (name, other.answer(name)) for name in before if other.answer(name) != before[name]])
            self.assertEqual(everything(keeper), (start, ["m", "u", "x"], [before[name] for name in "mux"], []))
        self.assertTrue(20 < many < 130)


class OtherObjects(Case):

    def test_a_book_knows_nothing_of_its_keeper(self):
        # Questions and stores are used by all, and changed by none.
        question = whole(ABC)
        book, keeper = Book(ABC), Keeper(STORE)
        keeper.hold("a", question)
        book[question] = 3
        keeper.do(("write", "a", 1))
        book.drop(question)
        self.assertEqual((keeper.answer("a"), question, STORE["a",]), ((153, 2), whole(ABC), (1, 1)))


if __name__ == "__main__":
    unittest.main()
