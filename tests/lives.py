"""What the document says of histories: threads, lives and their papers. All is reckoned by the words of section 7."""

import random
from fractions import Fraction

from papers import PaperCase, some_question

from blockshares.folders import Folders
from blockshares.histories import History, Span


WORDS = ("write", "leave", "leave", "copy", "strike")


def do(history, deed):
    """Does a deed, a tuple of its word and what it is done with."""
    word, *things = deed
    getattr(history, word)(*things)


def history_of(folders, deeds):
    history = History(folders)
    for deed in deeds:
        do(history, deed)
    return history


def some_start(chance):
    return Folders(list("bca")[:chance.randrange(1, 4)], chain=chance.random() < 0.3)


def some_deed(folders, chance, words=WORDS):
    """A deed behind which there are at least one folder and at most four."""
    word = chance.choice([word for word in words if word != "copy" or len(folders) < 4])
    name = chance.choice(folders.names)
    if word == "strike":
        return (word, [each for each in folders.names if each != name and chance.random() < 0.4])
    if word == "copy":
        return (word, name, chance.choice([new for new in "defgh" if new not in folders]))
    return (word, name)


def some_deeds(folders, chance, many, words=WORDS):
    history = History(folders)
    deeds = []
    for k in range(many):
        deeds.append(some_deed(history.folders, chance, words))
        do(history, deeds[-1])
    return deeds


def may_go(deed, lot, behind, come):
    """Whether a block may lie in the one lot ahead of a deed and in the other one behind it, by point 23."""
    word, name = deed[0], deed[1]
    if word == "write":
        return behind == lot or (not come and behind == (name,))
    if word == "leave":
        return behind == lot or (name in lot and set(behind) == set(lot) - {name})
    if word == "copy":
        return set(behind) == set(lot) | ({deed[2]} if name in lot else set())
    return set(behind) == set(lot) - set(name)


def threads_by_words(folders, deeds):
    """All threads: the rows of lots of which each one may follow the one ahead of it."""
    history = History(folders)
    rows = [(lot,) for lot in folders.lots() + [()]]
    for deed in deeds:
        do(history, deed)
        lots = history.folders.lots() + [()]
        rows = [row + (lot,) for row in rows for lot in lots if may_go(deed, row[-1], lot, any(row))]
    return sorted([row for row in rows if any(row)])


def answer_of(life, question, moment):
    """The answer of a life, in the words of point 24."""
    return sum([Fraction(*size) * (question.weight(thread[moment]) if thread[moment] else 0)
                for thread, size in life.items()], Fraction(0))


def life_fits(history, life):
    answers = [(answer_of(life, question, moment), low, high) for moment, question, low, high in history.told()]
    return all([(low is None or low <= size) and (high is None or size <= high) for size, low, high in answers])


def some_life(history, chance, most=9, nothing=0.3):
    return {thread: (chance.randrange(1, most), 1) for thread in history.threads() if chance.random() > nothing}


def some_ends(size, chance):
    between = (size - chance.randrange(3), size + 2)
    return chance.choice([size, (size - chance.choice([0, 2]), None), (None, size), between])


def some_history(folders, deeds, chance, many, wrong=0.0, most=9):
    """A history with some tellings about one life, but for some that are a little wrong, and this life."""
    life = some_life(history_of(folders, deeds), chance, most)
    history = History(folders)
    for at in range(len(deeds) + 1):
        if at > 0:
            do(history, deeds[at - 1])
        for k in range(chance.randrange(many + 1)):
            question = some_question(history.folders, chance)
            size = answer_of(life, question, at) + (chance.randrange(-4, 5) if chance.random() < wrong else 0)
            history[question] = some_ends(int(size), chance)
    return history, life


class LifeCase(PaperCase):

    def the_sum_over_threads(self, history, weights):
        """The sum of weights: how often each thread counts, and the sum number."""
        told = history.told()
        self.assertEqual((weights.__class__, len(weights)), (list, len(told)))
        number = 0
        counts = {thread: 0 for thread in history.threads()}
        for weight, (moment, question, low, high) in zip(weights, told):
            self.assertIs(weight.__class__, int)
            if weight != 0:
                self.assertIsNotNone(low if weight > 0 else high)
                number += weight * (low if weight > 0 else high)
            for thread in counts:
                counts[thread] += weight * (question.weight(thread[moment]) if thread[moment] else 0)
        return counts, number

    def check_no_life(self, history, weights):
        """The weights show that no life fits."""
        counts, number = self.the_sum_over_threads(history, weights)
        self.assertLessEqual(max(counts.values()), 0)
        self.assertGreater(number, 0)

    def check_life(self, history, life):
        self.assertIs(life.__class__, dict)
        threads = history.threads()
        for thread, size in life.items():
            self.assertIn(thread, threads)
            self.check_fraction(size)
            self.assertGreaterEqual(size[0], 0)

    def check_span(self, history, question, moment, span, sign):
        """The span is that of the greatest answer, or of the least one if sign is -1."""
        self.assertIsInstance(span, Span)
        self.check_fraction(span.value)
        value = Fraction(*span.value)
        self.check_life(history, span.life)
        self.assertTrue(life_fits(history, span.life))
        self.assertEqual(answer_of(span.life, question, moment), value)
        self.assertEqual(history.store_at(span.life, moment)(question), span.value)
        self.assertIs(span.times.__class__, int)
        self.assertGreaterEqual(span.times, 1)
        counts, number = self.the_sum_over_threads(history, span.weights)
        for thread in counts:
            weight = question.weight(thread[moment]) if thread[moment] else 0
            self.assertLessEqual(counts[thread] + sign * span.times * weight, 0)
        self.assertEqual(number, -sign * span.times * value)

    def check_growing_life(self, history, question, moment, life, base):
        """The life can be added to base, which fits, for ever, and answers the question above 0."""
        self.check_life(history, life)
        self.assertGreater(answer_of(life, question, moment), 0)
        for many in (1, Fraction(1, 7), 10 ** 30):
            both = {thread: Fraction(*base.get(thread, (0, 1))) + many * Fraction(*life.get(thread, (0, 1)))
                    for thread in {**base, **life}}
            both = {thread: (size.numerator, size.denominator) for thread, size in both.items()}
            self.assertTrue(life_fits(history, both))

    def check_moment(self, history, question, moment, base):
        """All that is told of a question at a moment in the lives that fit, of which base is one."""
        least, greatest = history.least(question, moment), history.greatest(question, moment)
        grows = history.grows(question, moment)
        if least is not None:
            self.check_span(history, question, moment, least, -1)
        else:
            self.check_growing_life(history, -question, moment, history.grows(-question, moment), base)
        self.assertEqual(greatest is None, grows is not None)
        if greatest is not None:
            self.check_span(history, question, moment, greatest, 1)
        else:
            self.check_growing_life(history, question, moment, grows, base)
        return least and least.value, greatest and greatest.value
