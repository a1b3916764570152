"""What the document says of papers: stores that fit, and weights. All is reckoned by sizes and counts alone."""

import random
from fractions import Fraction

from helping import Case

from blockshares.books import Book, Bound
from blockshares.folders import Folders
from blockshares.questions import Question, freed, just, refers, sent, shared, whole
from blockshares.stores import Store


def answer(store, question):
    return sum([Fraction(*store[lot]) * number for lot, number in question.counts().items()], Fraction(0))


def fitting(book, store):
    """Whether the answers of a store lie between all ends."""
    answers = [(answer(store, question), low, high) for question, low, high in book.told()]
    return all([(low is None or low <= size) and (high is None or size <= high) for size, low, high in answers])


def book_of(folders, tellings):
    """A new book with some tellings (question, low, high)."""
    book = Book(folders)
    for question, low, high in tellings:
        book[question] = (low, high)
    return book


def some_question(folders, chance):
    names = [name for name in folders.names if chance.random() < 0.5]
    return chance.choice([
        refers(folders, names), freed(folders, names), shared(folders, names), just(folders, names), whole(folders),
        sent(folders, chance.choice(folders.names), chance.choice(folders.names)),
        Question(folders, {lot: chance.randrange(-3, 4) for lot in folders.lots() if chance.random() < 0.6})])


def some_folders(chance):
    if chance.random() < 0.7:
        return Folders(list("dbca")[:chance.randrange(1, 5)])
    return Folders(list("fbeacd")[:chance.randrange(1, 7)], chain=True)


def some_book(folders, chance, many, wrong=0.1, nothing=0.2):
    """A book of so many tellings or some less, all of them about one store, but for some that are a little wrong."""
    book = Book(folders)
    store = Store(folders, {lot: chance.randrange(1, 9) for lot in folders.lots() if chance.random() > nothing})
    for k in range(many):
        question = some_question(folders, chance)
        size = int(answer(store, question)) + (chance.randrange(-4, 5) if chance.random() < wrong else 0)
        book[question] = chance.choice([
            size, (size - chance.choice([0, 2]), None), (None, size), (size - chance.randrange(3), size + 2)])
    return book


class PaperCase(Case):

    def the_sum(self, book, weights):
        """The sum of weights: the counts of the sum question for all lots, and the sum number."""
        told = book.told()
        self.assertEqual((weights.__class__, len(weights)), (list, len(told)))
        number = 0
        for weight, (question, low, high) in zip(weights, told):
            self.assertIs(weight.__class__, int)
            if weight != 0:
                self.assertIsNotNone(low if weight > 0 else high)
                number += weight * (low if weight > 0 else high)
        counts = {lot: sum([weight * told[at][0].weight(lot) for at, weight in enumerate(weights)])
                  for lot in book.folders.lots()}
        return counts, number

    def check_wrong(self, book, weights):
        """The weights show that no store fits."""
        counts, number = self.the_sum(book, weights)
        self.assertLessEqual(max(counts.values()), 0)
        self.assertGreater(number, 0)

    def check_fraction(self, pair):
        self.assertEqual((pair.__class__, pair[0].__class__, pair[1].__class__), (tuple, int, int))
        self.assertEqual((Fraction(*pair).numerator, Fraction(*pair).denominator), pair)

    def check_bound(self, book, question, bound, sign):
        """The bound is that of the greatest answer, or of the least one if sign is -1."""
        self.assertIsInstance(bound, Bound)
        self.check_fraction(bound.value)
        value = Fraction(*bound.value)
        self.assertIsInstance(bound.store, Store)
        self.assertEqual(bound.store.folders, book.folders)
        self.assertTrue(fitting(book, bound.store))
        self.assertEqual(answer(bound.store, question), value)
        self.assertIs(bound.times.__class__, int)
        self.assertGreaterEqual(bound.times, 1)
        counts, number = self.the_sum(book, bound.weights)
        for lot in book.folders.lots():
            self.assertLessEqual(counts[lot] + sign * bound.times * question.weight(lot), 0)
        self.assertEqual(number, -sign * bound.times * value)

    def check_growing(self, book, question, store, base):
        """The store can be added to base, which fits, for ever, and answers the question above 0."""
        self.assertGreater(answer(store, question), 0)
        for many in (1, (1, 7), 10 ** 30):
            self.assertTrue(fitting(book, base + store * many))
        for told, low, high in book.told():
            self.assertTrue(high is None or answer(store, told) <= 0)
            self.assertTrue(low is None or answer(store, told) >= 0)

    def check_answers(self, book, question, base):
        """All that is told of a question in the stores that fit, of which base is one."""
        least, greatest, grows = book.least(question), book.greatest(question), book.grows(question)
        if least is not None:
            self.check_bound(book, question, least, -1)
        else:
            self.check_growing(book, -question, book.grows(-question), base)
        self.assertEqual(greatest is None, grows is not None)
        if greatest is not None:
            self.check_bound(book, question, greatest, 1)
        else:
            self.check_growing(book, question, grows, base)
        alike = least is not None and greatest is not None and least.value == greatest.value
        self.assertIs(book.settled(question), alike)
        return least and least.value, greatest and greatest.value
