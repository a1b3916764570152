"""Books of tellings, and what is sure by them in all stores that fit."""

from blockshares.errors import BadTelling, NotTold, UnlikeFolders, Wrong
from blockshares.folders import choices, choices_of
from blockshares.questions import row_of
from blockshares.stores import Store
from blockshares.tableaus import Tableau, greatest_in, is_settled_in, least_in
from blockshares.values import is_integer, is_less, is_list


class Bound:
    """The least or the greatest answer, a store that has it, and weights that no store that fits can pass."""

    def __init__(self, value, store, weights, times):
        self.value = value
        self.store = store
        self.weights = weights
        self.times = times


class Book:
    """Tellings: questions about some folders, each with the ends between which its answer lies."""

    def __init__(self, folders):
        self.folders = folders
        # Both lists are replaced, not changed: one may be going through the old one.
        self.questions = []
        self.ends = []

    def __getitem__(self, at):
        place = place_in(self.questions, at)
        if place is None:
            raise NotTold(at)
        return self.ends[place]

    def __setitem__(self, at, worth):
        if self.folders != at.folders:
            raise UnlikeFolders()
        ends = ends_of(worth)
        if ends is None:
            raise BadTelling(worth)
        place = place_in(self.questions, at)
        if place is None:
            self.questions = self.questions + [at]
            self.ends = self.ends + [ends]
        else:
            self.ends = self.ends[:place] + [ends] + self.ends[place + 1:]

    def __iter__(self):
        return iter(self.questions)

    def __contains__(self, x):
        return place_in(self.questions, x) is not None

    def __len__(self):
        return len(self.questions)

    def told(self):
        """The list of all tellings, (question, low, high), as their questions were first told."""
        return [(question, low, high) for question, (low, high) in zip(self.questions, self.ends)]

    def drop(self, question):
        """Takes a telling out."""
        place = place_in(self.questions, question)
        if place is None:
            raise NotTold(question)
        self.questions = self.questions[:place] + self.questions[place + 1:]
        self.ends = self.ends[:place] + self.ends[place + 1:]

    def copy(self):
        """A book of its own with the same tellings."""
        other = Book(self.folders)
        other.questions = list(self.questions)
        other.ends = list(self.ends)
        return other

    def keeps(self, store):
        """Whether a store fits."""
        if self.folders != store.folders:
            raise UnlikeFolders()
        return all([is_between(store(question), ends) for question, ends in zip(self.questions, self.ends)])

    def fits(self):
        """A store that fits, or None."""
        tableau = tableau_of(self, places_of(self))
        return None if tableau.settle() is not None else store_with(self, tableau.point())

    def wrong(self):
        """Weights that show that no store fits, or None."""
        return tableau_of(self, places_of(self)).settle()

    def least(self, question):
        """The Bound of the least answer in all stores that fit, or None if there is no end."""
        return bound_of(self, question, -1)

    def greatest(self, question):
        """The Bound of the greatest answer in all stores that fit, or None if there is no end."""
        return bound_of(self, question, 1)

    def grows(self, question):
        """None if the greatest answer has an end, else a store, of an answer above 0, that can be added for ever."""
        way = aimed_at(self, question, 1).rise()
        return None if way is None else store_with(self, way)

    def settled(self, question):
        """Whether all stores that fit answer alike."""
        check_about(self, question)
        return is_settled_in(settled_tableau(self), row_of(question))

    def needless(self):
        """The list of the questions whose telling, each one alone, follows from all others."""
        tableau = settled_tableau(self)
        return [question for at, question in enumerate(self.questions) if follows(self, tableau, at)]

    def quarrels(self):
        """The list of all least choices of tellings that no store keeps together."""
        found = []
        for choice in choices(places_of(self)):
            least = not any([all([at in choice for at in less]) for less in found])
            if least and tableau_of(self, choice).settle() is not None:
                found.append(choice)
        return [questions_at(self, choice) for choice in found]

    def fewest_back(self):
        """The list of all choices of as few tellings as possible without which some store keeps the others."""
        many = 0
        found = taken_back(self, many)
        # Without any telling every store fits.
        while len(found) == 0:
            many += 1
            found = taken_back(self, many)
        return [questions_at(self, choice) for choice in found]


def place_in(questions, thing):
    """The place at which a question stands, or None for any object that does not."""
    for at, question in enumerate(questions):
        if question == thing:
            return at
    return None


def is_end(thing):
    """Whether any object is an integer, or None for no end."""
    return thing is None or is_integer(thing)


def ends_of(told):
    """The pair (low, high) that an object tells, or None if it tells none."""
    if is_integer(told):
        return (told, told)
    if not is_list(told) or len(told) != 2:
        return None
    low, high = told
    if not is_end(low) or not is_end(high) or (low is None and high is None):
        return None
    if low is not None and high is not None and low > high:
        return None
    return (low, high)


def is_between(answer, ends):
    """Whether a fraction lies between ends."""
    low, high = ends
    if low is not None and is_less(answer, (low, 1)):
        return False
    return high is None or not is_less((high, 1), answer)


def check_about(book, question):
    """Refuses a question about other folders than those of a book."""
    if book.folders != question.folders:
        raise UnlikeFolders()


def places_of(book):
    """The list of the places of all tellings."""
    return list(range(len(book.questions)))


def questions_at(book, places):
    """The list of the questions that stand at some places."""
    return [book.questions[at] for at in places]


def tableau_of(book, places):
    """The tableau of those tellings that stand at some places, a size for each lot."""
    rows = [row_of(question) for question in questions_at(book, places)]
    return Tableau(len(book.folders.places), rows, [book.ends[at] for at in places])


def settled_tableau(book):
    """The settled tableau of all tellings."""
    tableau = tableau_of(book, places_of(book))
    weights = tableau.settle()
    if weights is not None:
        raise Wrong(weights)
    return tableau


def aimed_at(book, question, sign):
    """The settled tableau with a question, or what is below 0 of it if sign is -1, as its aim."""
    check_about(book, question)
    return settled_tableau(book).aimed([sign * number for number in row_of(question)])


def bound_of(book, question, sign):
    """The Bound of the greatest answer, or of the least one if sign is -1; None if there is no end."""
    tableau = aimed_at(book, question, sign)
    if tableau.rise() is not None:
        return None
    top, bottom = tableau.height()
    weights, many = tableau.proof()
    return Bound((sign * top, bottom), store_with(book, tableau.point()), weights, many)


def store_with(book, sizes):
    """The store that has these sizes, one for each lot in their order."""
    return Store(book.folders, {lot: size for lot, size in zip(book.folders.places, sizes)})


def follows(book, tableau, at):
    """Whether each store that keeps all tellings but one keeps this one, too."""
    low, high = book.ends[at]
    row = row_of(book.questions[at])
    others = tableau.loosened(at)
    if low is not None:
        least = least_in(others, row)
        if least is None or is_less(least, (low, 1)):
            return False
    if high is not None:
        greatest = greatest_in(others, row)
        if greatest is None or is_less((high, 1), greatest):
            return False
    return True


def taken_back(book, many):
    """The list of all choices of so many tellings, as places, without which some store keeps the others."""
    places = places_of(book)
    found = []
    for choice in choices_of(places, many):
        kept = [at for at in places if at not in choice]
        if tableau_of(book, kept).settle() is None:
            found.append(choice)
    return found
