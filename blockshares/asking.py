"""Which answers settle a question: whatever they are, or in all stores that fit a book."""

from blockshares.books import check_about, places_of, settled_tableau, store_with
from blockshares.errors import UnlikeFolders
from blockshares.folders import choices_of
from blockshares.questions import just, row_of
from blockshares.reduced import Reduced
from blockshares.stores import Store
from blockshares.tableaus import Tableau, greatest_in, is_settled_in
from blockshares.values import NOTHING, plus


class Combination:
    """So many times the asked questions are together divisor times a question."""

    def __init__(self, numbers, divisor):
        self.numbers = numbers
        self.divisor = divisor


class Reason:
    """So many times the asked questions, settled tellings and empty lots are together divisor times a question."""

    def __init__(self, numbers, tellings, empty, divisor):
        self.numbers = numbers
        self.tellings = tellings
        self.empty = empty
        self.divisor = divisor


def combination(asked, question):
    """The Combination of the asked questions that is a question, or None."""
    check_asked(asked, question)
    found = reduced_rows(asked, question).sum_for(row_of(question))
    if found is None:
        return None
    numbers, divisor = found
    return Combination(numbers, divisor)


def unsettled(asked, question):
    """A pair of stores that answer all that is asked alike, and the question not, or None."""
    check_asked(asked, question)
    folders = question.folders
    apart = reduced_rows(asked, question).apart(row_of(question))
    if apart is None:
        return None
    # The one store has what is above 0, the other one what is below: so they differ just by this.
    more = {lot: size for lot, size in zip(folders.places, apart) if size > 0}
    less = {lot: -size for lot, size in zip(folders.places, apart) if size < 0}
    return (Store(folders, more), Store(folders, less))


def least_choices(asked, question):
    """The list of all choices, as indexes, of as few asked questions as possible that settle a question."""
    check_asked(asked, question)
    row = row_of(question)
    for many in range(len(asked) + 1):
        found = []
        for choice in choices_of(list(range(len(asked))), many):
            if reduced_rows([asked[at] for at in choice], question).sum_for(row) is not None:
                found.append(choice)
        if len(found) > 0:
            return found
    return []


def reason(book, asked, question):
    """The Reason for which the answers to what is asked settle a question in all stores that fit, or None."""
    check_asked(asked, question)
    check_about(book, question)
    tableau = settled_tableau(book)
    told = [row_of(each) for each in book]
    sure = [at for at in places_of(book) if is_settled_in(tableau, told[at])]
    rows_of_lots = {lot: row_of(just(book.folders, lot)) for lot in book.folders.places}
    empty = [lot for lot in rows_of_lots if greatest_in(tableau, rows_of_lots[lot]) == NOTHING]
    rows = [row_of(each) for each in asked] + [told[at] for at in sure] + [rows_of_lots[lot] for lot in empty]
    found = Reduced(rows, len(rows_of_lots)).sum_for(row_of(question))
    if found is None:
        return None
    numbers, divisor = found
    behind = len(asked) + len(sure)
    tellings = {at: number for at, number in zip(sure, numbers[len(asked):behind]) if number != 0}
    lots = {lot: number for lot, number in zip(empty, numbers[behind:]) if number != 0}
    return Reason(numbers[:len(asked)], tellings, lots, divisor)


def doubtful(book, asked, question):
    """A pair of stores that fit, answer all that is asked alike, and the question not, or None."""
    check_asked(asked, question)
    check_about(book, question)
    # It raises the error if no store fits; otherwise two stores fit, too, such as one and the same.
    settled_tableau(book)
    many = len(book.folders.places)
    tableau = tableau_of_two(book, asked)
    tableau.settle()
    aimed = tableau.aimed(difference(row_of(question)))
    way = aimed.rise()
    sizes = aimed.point()
    if aimed.height() == NOTHING:
        # So it is the greatest one, if it does not grow.
        if way is None:
            return None
        sizes = [plus(size, (more, 1)) for size, more in zip(sizes, way)]
    return (store_with(book, sizes[:many]), store_with(book, sizes[many:]))


def check_asked(asked, question):
    """Refuses questions about other folders than those of a question."""
    for each in asked:
        if each.folders != question.folders:
            raise UnlikeFolders()


def reduced_rows(asked, question):
    """The reduced rows of the asked questions, about the folders of a question."""
    return Reduced([row_of(each) for each in asked], len(question.folders.places))


def difference(row):
    """The row for the sizes of two stores that tells by how much the one answers more."""
    return row + [-number for number in row]


def tableau_of_two(book, asked):
    """The tableau of two stores that fit, and that answer all that is asked alike."""
    nothing = [0] * len(book.folders.places)
    told = [row_of(question) for question in book]
    rows = [row + nothing for row in told] + [nothing + row for row in told]
    rows = rows + [difference(row_of(question)) for question in asked]
    return Tableau(len(nothing) * 2, rows, book.ends + book.ends + [(0, 0) for question in asked])
