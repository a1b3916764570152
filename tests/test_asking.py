"""Point 19: which answers settle a question, whatever they are."""

import itertools
import random
import unittest

from papers import PaperCase, answer, some_folders, some_question

from blockshares.asking import Combination, combination, least_choices, unsettled
from blockshares.errors import UnlikeFolders
from blockshares.folders import Folders
from blockshares.questions import Question, freed, just, refers, sent, shared, whole
from blockshares.stores import Store

AB = Folders(["a", "b"])
ABC = Folders(["a", "b", "c"])
CHAIN = Folders(["a", "b", "c"], chain=True)
UNLIKE = (CHAIN, AB, Folders(["a", "c", "b"]), Folders(["a", "b", "d"]))
A, B, ALL = refers(AB, ["a"]), refers(AB, ["b"]), whole(AB)
HUGE = 10 ** 25 - 1


class AskingCase(PaperCase):

    def check_combination(self, asked, question, found):
        self.assertIsInstance(found, Combination)
        self.assertEqual((found.numbers.__class__, found.divisor.__class__), (list, int))
        self.assertEqual({number.__class__ for number in found.numbers} | {int}, {int})
        self.assertEqual(len(found.numbers), len(asked))
        self.assertGreaterEqual(found.divisor, 1)
        for lot in question.folders.lots():
            self.assertEqual(
                sum([number * each.weight(lot) for number, each in zip(found.numbers, asked)]),
                found.divisor * question.weight(lot))

    def check_pair(self, asked, question, pair):
        self.assertEqual((pair.__class__, len(pair)), (tuple, 2))
        for store in pair:
            self.assertIsInstance(store, Store)
            self.assertEqual(store.folders, question.folders)
        for each in asked:
            self.assertEqual(answer(pair[0], each), answer(pair[1], each))
        self.assertNotEqual(answer(pair[0], question), answer(pair[1], question))

    def check_either(self, asked, question):
        """Just one of both papers is there; whether the answers settle the question."""
        found, pair = combination(asked, question), unsettled(asked, question)
        self.assertEqual(found is None, pair is not None)
        if found is None:
            self.check_pair(asked, question, pair)
        else:
            self.check_combination(asked, question, found)
        return found is not None


class Combinations(AskingCase):

    def test_what_is_a_sum(self):
        found = combination([A, B, ALL], shared(AB, ["a", "b"]))
        self.assertEqual((found.numbers, found.divisor), ([1, 1, -1], 1))
        found = combination(asked=(ALL, sent(AB, "a", "b")), question=A)
        self.assertEqual((found.numbers, found.divisor), ([1, -1], 1))
        for asked, question in (
                ([A * 6], A * 4), ([A * 2, B * 3], A - B), ([A * HUGE], A), ([A], A * -HUGE), ([A, A, A], A),
                ([Question(AB), A], A), ([A * (HUGE - 1), A * HUGE + B, B * HUGE], A * 3 - B * 7)):
            self.assertTrue(self.check_either(asked, question))

    def test_a_fraction_of_what_is_asked(self):
        found = combination([A * 6], A * 4)
        self.assertEqual(found.numbers[0] * 6, 4 * found.divisor)
        self.assertEqual(combination([A * 2, B * 3], A - B).divisor % 6, 0)

    def test_what_is_no_sum(self):
        for asked, question in (
                ([A, B], ALL), ([ALL], A), ([A - B], A), ([A + B], A), ([], A), ((), -ALL), ([Question(AB)], B),
                ([A * HUGE + B], A * (HUGE - 1) + B), ([just(CHAIN, ["b"])], whole(CHAIN))):
            self.assertFalse(self.check_either(asked, question))

    def test_a_question_that_counts_nothing(self):
        for asked in ([], [A], [A, B, A], [Question(AB)]):
            self.assertTrue(self.check_either(asked, Question(AB)))

    def test_questions_about_other_folders(self):
        for call in (combination, unsettled, least_choices):
            for folders in UNLIKE:
                for question in (whole(ABC), Question(ABC)):
                    self.refuses(UnlikeFolders, {}, call, [whole(ABC), Question(folders)], question)
                    self.refuses(UnlikeFolders, {}, call, (whole(folders), whole(ABC)), question)
                self.refuses(UnlikeFolders, {}, call, [whole(ABC)], whole(folders))

    def test_many(self):
        chance = random.Random(4)
        settled = 0
        for k in range(300):
            folders = some_folders(chance)
            asked = [some_question(folders, chance) for k in range(chance.randrange(8))]
            settled += self.check_either(asked, some_question(folders, chance))
        self.assertTrue(60 < settled < 240)

    def test_many_sums(self):
        chance = random.Random(6)
        folders = Folders(list("abcde"))
        for k in range(30):
            asked = [Question(folders, {lot: chance.randrange(-HUGE, HUGE) for lot in folders.lots()})
                     for k in range(6)]
            total = Question(folders)
            for each in asked:
                total = total + each * chance.randrange(-9, 9)
            self.assertTrue(self.check_either(asked, total))
            self.assertTrue(self.check_either(asked + [total], asked[0] + total * 5))
            self.assertFalse(self.check_either(asked, total + freed(folders, ["a"])))

    def test_lists_can_be_changed_behind_the_call(self):
        asked = [A, B, ALL]
        found = combination(asked, shared(AB, ["a", "b"]))
        self.assertEqual(asked, [A, B, ALL])
        asked.clear()
        self.assertEqual(found.numbers, [1, 1, -1])
        found.numbers.clear()
        self.assertEqual(combination([A, B, ALL], shared(AB, ["a", "b"])).numbers, [1, 1, -1])


class LeastChoices(AskingCase):

    def test_ordinary_ones(self):
        both = shared(AB, ["a", "b"])
        for asked, question, expected in (
                ([A, B, ALL], both, [(0, 1, 2)]),
                ([A, B, ALL, both], both, [(3,)]),
                ([both * 2, A, both, ALL, -both], both, [(0,), (2,), (4,)]),
                ([A, B, A, ALL], both, [(0, 1, 3), (1, 2, 3)]),
                ([A + B, A - B, A, ALL], B, [(0, 1), (0, 2), (1, 2)]),
                ([A, B], ALL, []),
                ([], ALL, []),
                ([Question(AB)], ALL, [])):
            with self.subTest(expected=expected):
                found = least_choices(asked=asked, question=question)
                self.assertEqual(found, expected)
                self.assertEqual({choice.__class__ for choice in found} | {tuple}, {tuple})
                self.assertEqual(least_choices(tuple(asked), question), expected)

    def test_a_question_that_counts_nothing(self):
        for asked in ([], [A], [Question(AB), A]):
            self.assertEqual(least_choices(asked, Question(AB)), [()])

    def test_many(self):
        chance = random.Random(9)
        for k in range(100):
            folders = some_folders(chance)
            asked = [some_question(folders, chance) for k in range(chance.randrange(7))]
            question = some_question(folders, chance)
            expected = []
            for many in range(len(asked) + 1):
                if expected == []:
                    expected = [choice for choice in itertools.combinations(range(len(asked)), many)
                                if self.check_either([asked[at] for at in choice], question)]
            self.assertEqual(least_choices(asked, question), expected)


if __name__ == "__main__":
    unittest.main()
