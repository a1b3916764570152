"""Striking: what it frees in a store, and what it frees at least or at most in all stores that fit a book."""

from blockshares.books import settled_tableau
from blockshares.errors import BadNumber, BadSize
from blockshares.folders import check_named, choices_of
from blockshares.questions import freed, row_of
from blockshares.tableaus import greatest_in, least_in
from blockshares.values import NOTHING, is_integer, is_less, minus, size_of


def strikes(store, names):
    """The list of the sizes that are freed by each strike, if the folders are struck one behind the other."""
    check_named(store.folders, names)
    found = []
    before = NOTHING
    for many in range(1, len(names) + 1):
        gone = store(freed(store.folders, names[:many]))
        found.append(minus(gone, before))
        before = gone
    return found


def fewest_struck(book, size, *, sure=True):
    """The list of all choices of as few folders as possible, striking which frees at least so much.

    It does so in all stores that fit, or, if it need not be sure, in some.
    """
    wanted = size_of(size)
    if wanted is None:
        raise BadSize(size)
    tableau = settled_tableau(book)
    for many in range(len(book.folders) + 1):
        found = []
        for choice in choices_of(book.folders.names, many):
            much = end_of_freed(book, tableau, choice, sure)
            if much is None or not is_less(much, wanted):
                found.append(choice)
        if len(found) > 0:
            return found
    return []


def most_freed(book, count, *, sure=True):
    """The first choice of just so many folders that frees most, and how much: at least, or if not sure at most."""
    if not is_integer(count) or not 0 <= count <= len(book.folders):
        raise BadNumber(count)
    tableau = settled_tableau(book)
    best, most = None, NOTHING
    for choice in choices_of(book.folders.names, count):
        much = end_of_freed(book, tableau, choice, sure)
        if much is None:
            return (choice, None)
        if best is None or is_less(most, much):
            best, most = choice, much
    return (best, most)


def end_of_freed(book, tableau, choice, sure):
    """What striking a choice frees at least, or if not sure at most, in a settled tableau; None for no end."""
    row = row_of(freed(book.folders, choice))
    # Nothing counts below 0 here: so the least answer has an end.
    return least_in(tableau, row) if sure else greatest_in(tableau, row)
