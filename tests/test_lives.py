"""Point 25: what is told of the moments of a history, and what is sure in all lives that fit. Points 1 and 2, too."""

import random
import unittest

from helping import any_objects
from lives import LifeCase, answer_of, do, history_of, life_fits, some_deeds, some_history, some_start
from papers import some_question

from blockshares.books import Book
from blockshares.errors import BadTelling, NoMoment, NotTold, UnlikeFolders, Wrong
from blockshares.folders import Folders
from blockshares.histories import History
from blockshares.questions import Question, freed, just, refers, sent, shared, whole

AB = Folders(["a", "b"])
ABC = Folders(["a", "b", "c"])
CHAIN = Folders(["a", "b", "c"], chain=True)
UNLIKE = (CHAIN, AB, Folders(["a", "c", "b"]), Folders(["a", "b", "d"]))
A, B, ALL = refers(AB, ["a"]), refers(AB, ["b"]), whole(AB)
HUGE = 10 ** 25 - 1


class Telling(LifeCase):

    def setUp(self):
        self.history = History(AB)

    def tell(self, question, told):
        self.history[question] = told

    def test_what_can_be_told(self):
        for told, ends in (
                (5, (5, 5)), (-5, (-5, -5)), (0, (0, 0)), ((1, 2), (1, 2)), ([1, 1], (1, 1)), ((-3, None), (-3, None)),
                ([None, 4], (None, 4)), ((None, -4), (None, -4)), ((-HUGE, HUGE), (-HUGE, HUGE))):
            self.assertIsNone(self.history.__setitem__(A, told))
            self.assertEqual(self.history[A], ends)
            self.assertIs(self.history[A].__class__, tuple)
            self.assertEqual(self.history.told(), [(0, A, ends[0], ends[1])])

    def test_moments_of_their_own(self):
        self.history[A] = 3
        self.history[ALL] = (5, None)
        self.history.write("b")
        self.refuses(NotTold, {"question": A}, lambda: self.history[A])
        self.history[ALL] = (None, 9)
        self.history[A] = [2, 3]
        self.assertEqual(self.history.told(), [(0, A, 3, 3), (0, ALL, 5, None), (1, ALL, None, 9), (1, A, 2, 3)])
        # Again at this moment: at its place. The question is the same one, told by weights.
        self.history[Question(AB, {("b",): 1, ("a",): 1, ("b", "a"): 1})] = 7
        self.assertEqual(self.history.told(), [(0, A, 3, 3), (0, ALL, 5, None), (1, ALL, 7, 7), (1, A, 2, 3)])
        self.assertEqual((self.history[ALL], self.history[A]), ((7, 7), (2, 3)))
        self.history.copy("a", "c")
        self.refuses(NotTold, {"question": ALL}, lambda: self.history[ALL])
        self.history.strike(["c"])
        self.history[ALL] = 1
        self.assertEqual(self.history.told()[4:], [(3, ALL, 1, 1)])

    def test_multiples_are_other_questions(self):
        for question in (A, A * 2, -A, Question(AB)):
            self.history[question] = 0
        self.assertEqual([telling[1] for telling in self.history.told()], [A, A * 2, -A, Question(AB)])

    def test_bad_tellings(self):
        self.history[A] = 3
        self.history.write("a")
        self.history[B] = 4
        pairs = [(1, "2"), ("1", 2), (True, 2), (1, False), (1, [2]), (1, 2, 3), (1,), [[1, 2]], (None, A), (1, ()),
                 (None, None), [None, None], (2, 1), [0, -1], (HUGE, HUGE - 1), (-1, -2), [1, 0], [1, -1]]
        for thing in any_objects() + pairs:
            if thing.__class__ is not int and thing != (-1, 2):
                with self.subTest(thing=thing):
                    self.refuses(BadTelling, {"ends": thing}, self.tell, A, thing)
                    self.refuses(BadTelling, {"ends": thing}, self.tell, B, thing)
                    self.assertEqual(self.history.told(), [(0, A, 3, 3), (1, B, 4, 4)])

    def test_questions_about_other_folders(self):
        history = History(ABC)
        for told in (3, (None, None), "x", True):
            for folders in UNLIKE:
                self.refuses(UnlikeFolders, {}, history.__setitem__, Question(folders), told)
        history.strike(["c"])
        # What counts are the folders of the present moment.
        self.refuses(UnlikeFolders, {}, history.__setitem__, whole(ABC), 3)
        history[ALL] = 3
        self.assertEqual(history.told(), [(1, ALL, 3, 3)])

    def test_what_is_not_told(self):
        self.history[A] = 1
        for thing in [B, A * 2, -A] + [refers(folders, ["a"]) for folders in UNLIKE if folders != AB] + any_objects():
            self.refuses(NotTold, {"question": thing}, lambda at: self.history[at], thing)
        self.assertEqual(self.history.told(), [(0, A, 1, 1)])

    def test_lists_can_be_changed_behind_the_call(self):
        ends = [1, 2]
        self.history[A] = ends
        ends[1] = 0
        self.history.told().clear()
        self.history.told().append((0, B, 1, 1))
        self.assertEqual((self.history[A], self.history.told()), ((1, 2), [(0, A, 1, 2)]))

    def test_it_is_not_iterated_over(self):
        self.assertRaises(TypeError, list, self.history)


class ByHand(LifeCase):

    def value(self, span):
        return None if span is None else span.value

    def ends(self, history, question, moment=None):
        return (self.value(history.least(question, moment)), self.value(history.greatest(question, moment)))

    def test_what_is_sure_of_now_by_what_was_told_before(self):
        history = History(AB)
        history[ALL] = 10
        history[A] = 6
        history.leave("a")
        self.assertEqual(self.ends(history, A), ((0, 1), (6, 1)))
        self.assertEqual(self.ends(history, B), ((4, 1), (10, 1)))
        self.assertEqual(self.ends(history, ALL), ((4, 1), (10, 1)))
        history.write("b")
        self.assertEqual(self.ends(history, B), ((4, 1), None))
        self.assertEqual(self.ends(history, A), ((0, 1), (6, 1)))
        history[B] = (None, 5)
        # As nothing has left b, and it alone held 4 of it all the time.
        for moment in (None, 0, 1, 2):
            self.assertEqual(self.ends(history, shared(AB, ["a", "b"]), moment), ((0, 1), (1, 1)))
        self.assertEqual(self.ends(history, just(AB, ["b"]), moment=0), ((4, 1), (4, 1)))

    def test_what_is_told_now_tells_of_before(self):
        history = History(ABC)
        history.strike(names=["b"])
        kept = history.folders
        history[whole(kept)] = 7
        history.copy("a", "d")
        history[freed(history.folders, ["a", "d"])] = (2, None)
        self.assertEqual(self.ends(history, refers(ABC, ["a", "c"]), 0), ((7, 1), (7, 1)))
        self.assertEqual(self.ends(history, freed(ABC, ["a", "b"]), 0), ((2, 1), None))
        self.assertEqual(self.ends(history, freed(ABC, ["b"]), 0), ((0, 1), None))
        self.assertEqual(self.ends(history, refers(kept, ["c"]), 1), ((0, 1), (5, 1)))

    def test_the_same_question_at_two_moments(self):
        history = History(AB)
        history[A] = 8
        history.leave("a")
        history[A] = 5
        self.assertEqual(self.ends(history, A, 0), ((8, 1), (8, 1)))
        self.assertEqual(self.ends(history, A, None), ((5, 1), (5, 1)))
        history.leave("a")
        self.assertEqual(self.ends(history, A), ((0, 1), (5, 1)))
        history[A] = 6
        self.assertIsNone(history.fits())
        self.check_no_life(history, history.wrong())
        self.assertEqual(history.wrong(), [0, -1, 1])
        history[A] = 4
        self.assertIsNone(history.wrong())

    def test_values_that_are_fractions(self):
        history = History(ABC)
        for names in ("ab", "ac", "bc"):
            history[refers(ABC, list(names))] = 5
        history.strike([])
        history[shared(ABC, ["a", "b", "c"])] = 0
        self.assertEqual(self.ends(history, whole(ABC)), ((5, 1), (15, 2)))
        self.check_span(history, whole(ABC), 0, history.greatest(whole(ABC), 0), 1)

    def test_growing_for_ever(self):
        history = History(AB)
        history[A] = 3
        history.write("a")
        self.assertEqual(history.grows(A, 0), None)
        life = history.grows(question=A, moment=1)
        self.assertEqual(list(life), [((), ("a",))])
        self.check_growing_life(history, A, 1, life, history.fits())
        self.check_growing_life(history, B, 0, history.grows(B, 0), history.fits())
        self.assertIsNone(history.greatest(question=A, moment=None))
        self.assertIsNone(history.least(-A))

    def test_without_tellings(self):
        for folders in (Folders(["a"]), ABC, CHAIN):
            history = history_of(folders, [("write", "a"), ("leave", "a"), ("copy", "a", "d")])
            self.assertIsNone(history.wrong())
            self.check_life(history, history.fits())
            for moment in range(4):
                there = whole(history.folders_at(moment))
                self.assertEqual(self.check_moment(history, there, moment, {}), ((0, 1), None))
                self.assertEqual(self.check_moment(history, there * 0, moment, {}), ((0, 1), (0, 1)))
            self.assertEqual(history.least(whole(history.folders)).weights, [])

    def test_a_lot_that_no_block_can_lie_in(self):
        history = History(AB)
        history.copy("a", "c")
        acb = history.folders
        self.assertEqual(self.ends(history, just(acb, ["a"])), ((0, 1), (0, 1)))
        history[sent(acb, "a", "c")] = (1, None)
        self.check_no_life(history, history.wrong())


class Errors(LifeCase):

    def asking(self, history):
        return [history.least, history.greatest, history.grows]

    def wrong_history(self):
        history = History(ABC)
        history[whole(ABC)] = 3
        history.strike(["c"])
        history[ALL] = (4, None)
        return history

    def test_no_moment(self):
        right = History(ABC)
        right.strike(["c"])
        for history in (right, self.wrong_history()):
            told = history.told()
            for thing in any_objects() + ["0", 2, 10 ** 25, (0, 1)]:
                if thing is not None:
                    for call in self.asking(history):
                        # Ahead of UnlikeFolders, and of Wrong.
                        for question in (ALL, whole(ABC), whole(CHAIN)):
                            self.refuses(NoMoment, {"moment": thing}, call, question, thing)
            self.assertEqual(history.told(), told)

    def test_unlike_folders(self):
        right = History(ABC)
        right.strike(["c"])
        rows = ((ABC, (1, None)), (AB, (0,)), (CHAIN, (0, 1, None)), (UNLIKE[2], (0, 1, None)))
        for history in (right, self.wrong_history()):
            for call in self.asking(history):
                for folders, moment in [(folders, moment) for folders, moments in rows for moment in moments]:
                    self.refuses(UnlikeFolders, {}, call, whole(folders), moment)

    def test_wrong(self):
        history = self.wrong_history()
        self.assertIsNone(history.fits())
        for call in self.asking(history):
            for question, moment in ((whole(ABC), 0), (ALL, 1), (Question(AB), None)):
                with self.assertRaises(Wrong) as caught:
                    call(question, moment)
                self.assertIs(caught.exception.__class__, Wrong)
                self.check_no_life(history, caught.exception.weights)
                caught.exception.weights.clear()
        history.wrong().clear()
        self.assertEqual(history.wrong(), [-1, 1])
        self.assertEqual(len(history.told()), 2)

    def test_tellings_that_are_wrong_alone(self):
        for question, low, high in (
                (whole(ABC), -3, -1), (-whole(ABC), 1, None), (Question(ABC), 1, None), (Question(ABC), -5, -5)):
            history = history_of(ABC, [("write", "a"), ("leave", "a")])
            history[question] = (low, high)
            self.assertIsNone(history.fits())
            self.check_no_life(history, history.wrong())


class ManyHistories(LifeCase):

    def test_papers(self):
        chance = random.Random(25)
        wrong = grows = fractions = words = 0
        for k in range(150):
            folders = some_start(chance)
            deeds = some_deeds(folders, chance, chance.randrange(6))
            history, true = some_history(folders, deeds, chance, 3, wrong=0.1)
            told, threads = history.told(), history.threads()
            life, weights = history.fits(), history.wrong()
            self.assertEqual(life is None, weights is not None)
            words += len(history)
            if life is None:
                wrong += 1
                self.check_no_life(history, weights)
                continue
            self.check_life(history, life)
            self.assertTrue(life_fits(history, life))
            for moment in range(len(history) + 1):
                question = some_question(history.folders_at(moment), chance)
                least, greatest = self.check_moment(history, question, moment, life)
                grows += greatest is None
                fractions += least is not None and least[1] > 1
                if life_fits(history, true):
                    size = answer_of(true, question, moment)
                    self.assertTrue(least is None or least[0] <= size * least[1])
                    self.assertTrue(greatest is None or size * greatest[1] <= greatest[0])
            question = whole(history.folders)
            self.assertEqual(self.papers(history.least(question)), self.papers(history.least(question, len(history))))
            self.assertEqual((history.told(), history.threads()), (told, threads))
        self.assertGreater(min(wrong, grows, fractions), 5)
        self.assertGreater(words, 200)

    def papers(self, span):
        return span and (span.value, span.life, span.weights, span.times)

    def all_papers(self, history):
        there = whole(history.folders)
        try:
            spans = [self.papers(history.least(there)), self.papers(history.greatest(there))]
            return [history.fits(), history.wrong(), spans, history.grows(there), history.told(), history.threads()]
        except Wrong as wrong:
            return [history.fits(), history.wrong(), wrong.weights, history.told(), history.threads()]

    def test_a_history_that_was_asked_tells_what_a_new_one_tells(self):
        chance = random.Random(7)
        for k in range(30):
            folders = some_start(chance)
            deeds = some_deeds(folders, chance, 4)
            expected, life = some_history(folders, deeds, chance, 3, wrong=0.1)
            history = History(folders)
            for moment in range(5):
                if moment > 0:
                    do(history, deeds[moment - 1])
                for at, question, low, high in expected.told():
                    if at == moment:
                        history[question] = (low, high)
                        self.assertEqual(self.all_papers(history), self.all_papers(history))
            self.assertEqual(self.all_papers(history), self.all_papers(expected))

    def test_lives_that_are_returned_are_new(self):
        history = History(AB)
        history[ALL] = 3
        history.leave("b")
        history.write("a")
        for call in (history.fits, lambda: history.least(ALL, 0).life, lambda: history.grows(A)):
            life = call()
            self.assertNotEqual(life, {})
            call().clear()
            self.assertEqual(call(), life)


class AgainstBooks(LifeCase):

    def value(self, bound):
        return None if bound is None else bound.value

    def test_copy_and_strike_alone(self):
        chance = random.Random(3)
        wrong = 0
        for k in range(80):
            folders = some_start(chance)
            deeds = some_deeds(folders, chance, chance.randrange(1, 6), words=("copy", "strike"))
            history, life = some_history(folders, deeds, chance, 2, wrong=0.2)
            book = Book(folders)
            behind = {thread[0]: thread for thread in history.threads()}
            self.assertEqual(len(behind), len(history.threads()))
            for at, (moment, question, low, high) in enumerate(history.told()):
                # The question about the first moment that this one is, as each block lies where its thread tells. Its
                # multiple keeps it apart from others, so that none takes the place of another one.
                counts = {lot: question.weight(behind[lot][moment]) for lot in behind if behind[lot][moment]}
                many = 101 + at
                first = Question(folders, counts) * many
                if counts == {} or set(counts.values()) == {0}:
                    first = Question(folders)
                    if not ((low or 0) <= 0 <= (high or 0)):
                        book[first] = (low, high)
                else:
                    self.assertNotIn(first, book)
                    book[first] = (low and low * many, high and high * many)
            self.assertEqual(history.wrong() is None, book.wrong() is None)
            if book.wrong() is not None:
                wrong += 1
                continue
            for question in [some_question(folders, chance) for k in range(3)] + [whole(folders)]:
                self.assertEqual(self.value(history.least(question, 0)), self.value(book.least(question)))
                self.assertEqual(self.value(history.greatest(question, 0)), self.value(book.greatest(question)))
                self.assertEqual(history.grows(question, 0) is None, book.grows(question) is None)
        self.assertTrue(5 < wrong < 60)

    def test_moment_0_of_a_history_without_deeds(self):
        chance = random.Random(4)
        for k in range(40):
            folders = some_start(chance)
            history, life = some_history(folders, [], chance, 4)
            book = Book(folders)
            for moment, question, low, high in history.told():
                book[question] = (low, high)
            question = some_question(folders, chance)
            self.assertEqual(self.value(history.least(question)), self.value(book.least(question)))
            self.assertEqual(self.value(history.greatest(question)), self.value(book.greatest(question)))
            self.assertTrue(book.keeps(history.store_at(history.fits())))


if __name__ == "__main__":
    unittest.main()
