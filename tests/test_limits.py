"""The numbers and lengths that LIMITS names: every call comes to an end, with papers that are right."""

import random
import unittest

from lives import LifeCase, do, history_of, life_fits
from papers import PaperCase, answer, book_of, fitting

from blockshares.asking import combination, doubtful, least_choices, reason, unsettled
from blockshares.books import Book
from blockshares.folders import Folders
from blockshares.histories import History
from blockshares.keeping import Keeper
from blockshares.questions import Question, freed, just, refers, sent, shared, whole
from blockshares.stores import Store
from blockshares.striking import fewest_struck, most_freed, strikes
from blockshares.texts import read, text_of

FIVE = Folders(list("abcde"))
CHAIN = Folders(list("abcdefghijkl"), chain=True)
THREE = Folders(list("abc"))
HUGE = 10 ** 25 - 1
BIG = 10 ** 12 - 1


def by_weights(folders, chance, most):
    return Question(folders, {lot: chance.randrange(-most, most + 1) for lot in folders.lots()})


def by_functions(folders, chance, most):
    names = chance.sample(folders.names, chance.randrange(1, len(folders) + 1))
    made = [function(folders, names) for function in (refers, freed, shared, just)]
    return chance.choice(made + [sent(folders, names[0], names[-1])]) * chance.choice([1, 1, chance.randrange(1, 9)])


def nearly_alike(folders, chance, most):
    return Question(folders, {lot: most - at - chance.randrange(3) for at, lot in enumerate(folders.lots())})


def multiples(folders, chance, most):
    return whole(folders) * chance.randrange(1, most) - freed(folders, [folders.names[0]]) * chance.randrange(2)


def some_ends(size, chance, most):
    room = chance.choice([0, chance.randrange(most)])
    return chance.choice([size, (size - room, None), (None, size + room), (size - room, size + chance.randrange(most))])


def some_book(folders, made, many, most, seed):
    """A book of so many tellings, with a store that fits."""
    chance = random.Random(seed)
    book = Book(folders)
    store = Store(folders, {lot: chance.choice([0, chance.randrange(most)]) for lot in folders.lots()})
    while len(book) < many:
        question = made(folders, chance, most)
        if question not in book:
            book[question] = some_ends(int(answer(store, question)), chance, most)
    return book, store


class Books(PaperCase):

    def test_books_of_many_tellings(self):
        for seed, (folders, made, many, most) in enumerate([
                (folders, made, many, most) for folders in (FIVE, CHAIN) for many, most in ((24, BIG), (10, HUGE))
                for made in (by_weights, by_functions, nearly_alike, multiples)]):
            with self.subTest(made=made.__name__, many=many, chain=folders.chain):
                book, store = some_book(folders, made, many, most, seed)
                self.assertTrue(fitting(book, store))
                self.assertIs(book.keeps(store), True)
                self.assertTrue(fitting(book, book.fits()))
                for question in (whole(folders), by_weights(folders, random.Random(seed), 9)):
                    self.check_answers(book, question, store)
                    least, greatest = book.least(question), book.greatest(question)
                    self.assertTrue(least is None or least.value[0] <= answer(store, question) * least.value[1])
                    self.assertTrue(
                        greatest is None or greatest.value[0] >= answer(store, question) * greatest.value[1])
                for question in book.needless()[:3]:
                    others = book.copy()
                    others.drop(question)
                    self.check_answers(others, question, store)

    def test_books_that_no_store_fits(self):
        for seed, made in enumerate((by_weights, by_functions, nearly_alike, multiples)):
            for folders in (FIVE, CHAIN):
                # Ends that miss each other by 1 of twelve figures, or of 25.
                for many, most in ((22, BIG), (8, HUGE)):
                    book, store = some_book(folders, made, many, most, seed)
                    total = sum([question for question in book], Question(folders))
                    question = whole(folders) * 3 - total * 2
                    size = int(answer(store, question))
                    book[question] = (size, None)
                    book[question * 2] = (None, 2 * size - 1)
                    self.assertIsNone(book.fits())
                    self.check_wrong(book, book.wrong())

    def test_quarrels_of_huge_numbers(self):
        for folders in (FIVE, CHAIN):
            book, store = some_book(folders, by_weights, 4, HUGE, 1)
            first, second, third, fourth = list(book)
            for question in list(book):
                book[question] = int(answer(store, question))
            total = first * 2 + second - third * 3
            size = int(answer(store, total))
            book[total] = (size + 1, None)
            self.assertEqual(book.quarrels(), [[first, second, third, total]])
            self.assertEqual(book.fewest_back(), [[first], [second], [third], [total]])
            book[total] = (None, size)
            self.assertEqual((book.quarrels(), book.fewest_back()), ([], [[]]))

    def test_tellings_alike_by_a_multiple(self):
        book = Book(FIVE)
        for number in range(1, 25):
            book[whole(FIVE) * number] = (10 * number - 1, 10 * number + 1)
        least, greatest = self.check_answers(book, whole(FIVE), Store(FIVE, {("a",): 10}))
        self.assertEqual((least, greatest), ((239, 24), (241, 24)))
        self.assertEqual(book.needless(), list(book)[:-1])

    def test_steps_that_could_be_many_or_go_round(self):
        # The first has long ways along its corners (Klee and Minty), the other steps of no length (Beale).
        lots = CHAIN.lots()
        book = Book(CHAIN)
        for at in range(16):
            weights = {lots[less]: 2 ** (at - less + 1) for less in range(at)}
            book[Question(CHAIN, {**weights, lots[at]: 1})] = (None, 5 ** (at + 1))
        aim = Question(CHAIN, {lots[at]: 2 ** (15 - at) for at in range(16)})
        self.assertEqual(self.check_answers(book, aim, Store(CHAIN)), ((0, 1), (5 ** 16, 1)))
        self.assertEqual(book.needless(), [])
        lots = FIVE.lots()
        book = Book(FIVE)
        for numbers, high in (((25, -6000, -4, 900), 0), ((25, -4500, -1, 150), 0), ((0, 0, 1, 0), 1)):
            book[Question(FIVE, dict(zip(lots, numbers)))] = (None, high)
        aim = Question(FIVE, dict(zip(lots, (75, -15000, 2, -600))))
        self.assertEqual(self.check_answers(book, aim, Store(FIVE))[1], (5, 1))

    def test_what_is_returned_can_be_passed_on(self):
        book, store = some_book(FIVE, by_weights, 10, HUGE, 3)
        bound = book.greatest(Question(FIVE)) and book.least(list(book)[0] * 2 - list(book)[1])
        total = Question(FIVE)
        for weight, question in zip(bound.weights if bound else book.greatest(Question(FIVE)).weights, list(book)):
            total = total + question * weight
        size = int(answer(store, total))
        book[total] = (size - 1, size + 1)
        self.check_answers(book, total, store)
        self.assertIs(book.keeps(book.fits()), True)


class Asking(PaperCase):

    def test_seven_questions(self):
        for folders in (FIVE, CHAIN):
            chance = random.Random(2)
            asked = [by_weights(folders, chance, HUGE) for k in range(6)]
            asked.append(asked[0] * 3 - asked[2])
            question = asked[1] * 2 - asked[6] * 5
            found = combination(asked, question)
            total = Question(folders)
            for number, each in zip(found.numbers, asked):
                total = total + each * number
            self.assertEqual(total, question * found.divisor)
            self.assertIsNone(unsettled(asked, question))
            self.assertEqual(least_choices(asked, question), [(1, 6)])
            self.assertEqual(least_choices(asked, question + asked[0]), [(0, 1, 2), (0, 1, 6), (1, 2, 6)])
            one, other = unsettled(asked, question + whole(folders))
            self.assertEqual([answer(one, each) for each in asked], [answer(other, each) for each in asked])
            self.assertNotEqual(answer(one, whole(folders)), answer(other, whole(folders)))

    def test_with_books(self):
        settled = 0
        for seed, (made, many, most) in enumerate([
                (made, many, most) for made in (by_weights, by_functions, nearly_alike, multiples)
                for many, most in ((24, BIG), (10, HUGE))]):
            book, store = some_book(THREE, made, many, most, seed)
            chance = random.Random(seed)
            asked = [by_weights(THREE, chance, HUGE) for k in range(3)]
            for question in (whole(THREE), asked[0] * 2 - list(book)[0]):
                found, pair = reason(book, asked, question), doubtful(book, asked, question)
                self.assertEqual(found is None, pair is not None)
                settled += found is not None
                if pair is not None:
                    self.assertTrue(fitting(book, pair[0]) and fitting(book, pair[1]))
                    one, other = [[answer(store, each) for each in asked] for store in pair]
                    self.assertEqual(one, other)
                    self.assertNotEqual(answer(pair[0], question), answer(pair[1], question))
        self.assertTrue(0 < settled < 16)


class Striking(PaperCase):

    def test_books_of_many_tellings(self):
        for seed, (folders, made, many, most) in enumerate([
                (folders, made, many, most) for folders in (Folders(list("dbca")), Folders(list("ebdca"), chain=True))
                for many, most in ((24, BIG), (10, HUGE)) for made in (by_weights, by_functions, nearly_alike)]):
            book, store = some_book(folders, made, many, most, seed)
            gone = strikes(store, folders.names)
            for count in range(len(folders) + 1):
                choice, value = most_freed(book, count)
                self.check_bound(book, freed(folders, choice), book.least(freed(folders, choice)), -1)
                self.assertEqual(book.least(freed(folders, choice)).value, value)
                # So much is freed by these, and by fewer perhaps.
                self.assertLessEqual(len(fewest_struck(book, value)[0]), count)
                self.assertEqual(strikes(store, folders.names[:count]), gone[:count])
                choice, value = most_freed(book, count, sure=False)
                greatest = book.greatest(freed(folders, choice))
                self.assertEqual(value, None if greatest is None else greatest.value)


class Histories(LifeCase):

    def plans(self):
        """Five deeds of histories that come to have many threads."""
        yield [("leave", name) for name in "abcab"]
        yield [("copy", "a", "d")] + [("leave", name) for name in "adbc"]
        yield [("write", "a"), ("leave", "a"), ("write", "a"), ("leave", "a"), ("write", "b")]
        yield [("leave", "b"), ("copy", "b", "abcdefgh"), ("leave", "b"), ("strike", ["c"]), ("leave", "abcdefgh")]

    def test_twelve_tellings(self):
        most = 0
        for folders in (THREE, Folders(list("abc"), chain=True)):
            for seed, deeds in enumerate(self.plans()):
                for made in (by_weights, by_functions, nearly_alike, multiples):
                    most = max(most, self.check_history(folders, deeds, made, random.Random(seed)))
        self.assertGreater(most, 40)

    def check_history(self, folders, deeds, made, chance):
        threads = history_of(folders, deeds).threads()
        life = {thread: chance.choice([0, chance.randrange(HUGE)]) for thread in threads}
        history = History(folders)
        for moment in range(6):
            if moment > 0:
                do(history, deeds[moment - 1])
            for question in (made(history.folders, chance, HUGE), made(history.folders, chance, HUGE)):
                size = int(answer(history.store_at(life, moment), question))
                history[question] = some_ends(size, chance, HUGE)
        self.assertIsNone(history.wrong())
        found = history.fits()
        self.assertTrue(life_fits(history, found))
        for moment in range(6):
            there = history.folders_at(moment)
            for question in (whole(there), by_weights(there, chance, 9)):
                self.check_moment(history, question, moment, found)
        total = Question(history.folders)
        for moment, question, low, high in history.told():
            if moment == 5:
                total = total + question * 3
        history[total] = int(answer(history.store_at(life), total))
        history[total * 2] = (None, 2 * int(answer(history.store_at(life), total)) - 1)
        self.assertIsNone(history.fits())
        self.check_no_life(history, history.wrong())
        return len(threads)


class Keeping(PaperCase):

    def test_fourteen_deeds(self):
        keeper = Keeper(Store(CHAIN, {lot: (HUGE - at, HUGE) for at, lot in enumerate(CHAIN.lots())}))
        keeper.hold("all", whole(CHAIN) * HUGE)
        start = keeper.present()
        news = [keeper.do(("write", name, HUGE)) for name in "abcdefghijkl"]
        self.assertEqual({len(each) for each in news}, {1})
        self.assertEqual(keeper.do(["strike", list("bdfh")]), [("all", None)])
        self.assertEqual(keeper.do(("copy", "a", "new")), [])
        five = [("rename", "new", "b"), ("strike", ["a"]), ("rename", "b", "x"), ("write", "c", 1), ("copy", "c", "d")]
        self.assertEqual(keeper.would(five), [])
        self.assertEqual(len(keeper.deeds()), 14)
        for k in range(14):
            keeper.undo()
        self.assertEqual((keeper.present(), keeper.deeds()), (start, []))


class Texts(PaperCase):

    def test_33_lines(self):
        most = int("9" * 40)
        store = Store(FIVE, {lot: (most - at, most) for at, lot in enumerate(FIVE.lots())})
        self.assertEqual((text_of(store).count("\n"), read(text_of(store))), (32, store))
        book = book_of(CHAIN, [
            (by_weights(CHAIN, random.Random(at), most), -most, most - at) for at in range(32)])
        self.assertEqual((text_of(book).count("\n"), read(text_of(book)).told()), (33, book.told()))


if __name__ == "__main__":
    unittest.main()
