"""Texts of stores and books: how they are written, and how they are read."""

from blockshares.books import Book, ends_of
from blockshares.errors import BadFolders, BadText
from blockshares.folders import Folders, lot_of
from blockshares.questions import Question
from blockshares.stores import Store
from blockshares.values import NOTHING, size_of

FIGURES = "0123456789"


def text_of(thing):
    """The text of a store or a book."""
    if isinstance(thing, Book):
        lines = [line_of_head("book", thing.folders)]
        lines = lines + [line_of_telling(question, low, high) for question, low, high in thing.told()]
    else:
        lines = [line_of_head("store", thing.folders)]
        lines = lines + [line_of_size(lot, size) for lot, size in thing.sizes().items()]
    return "".join([line + "\n" for line in lines])


def read(text):
    """The store or the book that has a text."""
    parts = text.split("\n")
    lines, rest = parts[:-1], parts[-1]
    head = head_told(lines[0]) if len(lines) > 0 else None
    if head is None:
        raise BadText(1)
    word, folders = head
    thing = book_told(folders, lines) if word == "book" else store_told(folders, lines)
    # Lines that can be read are a text; so all that may be wrong now is a last line without its line feed.
    if rest != "":
        raise BadText(len(parts))
    return thing


def line_of_head(word, folders):
    """The first line of a text."""
    return " ".join((["chained"] if folders.chain else []) + [word] + list(folders.names))


def line_of_size(lot, size):
    """The line of a lot with a size."""
    top, bottom = size
    return "+".join(lot) + " " + (f"{top}" if bottom == 1 else f"{top}/{bottom}")


def line_of_telling(question, low, high):
    """The line of a telling."""
    ends = ["-" if end is None else f"{end}" for end in (low, high)]
    return " ".join(ends + [f"{number}:" + "+".join(lot) for lot, number in question.counts().items()])


def head_told(line):
    """The pair of a word and the Folders that a first line tells, or None if it tells none."""
    parts = line.split(" ")
    chain = parts[0] == "chained"
    if chain:
        parts = parts[1:]
    if len(parts) == 0 or parts[0] not in ("store", "book"):
        return None
    try:
        return (parts[0], Folders(parts[1:], chain=chain))
    except BadFolders:
        return None


def store_told(folders, lines):
    """The store that the lines behind the first one tell."""
    sizes = {}
    last = -1
    for at, line in enumerate(lines):
        if at > 0:
            found = size_told(folders, line)
            if found is None or folders.places[found[0]] <= last:
                raise BadText(at + 1)
            lot, size = found
            sizes[lot] = size
            last = folders.places[lot]
    return Store(folders, sizes)


def book_told(folders, lines):
    """The book that the lines behind the first one tell."""
    book = Book(folders)
    for at, line in enumerate(lines):
        if at > 0:
            found = telling_told(folders, line)
            if found is None or found[0] in book:
                raise BadText(at + 1)
            question, ends = found
            book[question] = ends
    return book


def size_told(folders, line):
    """The pair of a lot and its size, above 0, that a line tells, or None if it tells none."""
    names, blank, number = line.partition(" ")
    top, slash, bottom = number.partition("/")
    lot = lot_of(folders, names.split("+"))
    size = size_of((integer_told(top), integer_told(bottom) if slash != "" else 1))
    if lot is None or size is None or size == NOTHING:
        return None
    # Each line is written in one way only: so what is read as something must be just as this is written.
    return (lot, size) if line_of_size(lot, size) == line else None


def telling_told(folders, line):
    """The pair of a question and its ends that a line tells, or None if it tells none."""
    parts = line.split(" ")
    if len(parts) < 2:
        return None
    # What is neither an integer nor "-" is written otherwise than it is read here, and refused below.
    ends = ends_of((integer_told(parts[0]), integer_told(parts[1])))
    weights = weights_told(folders, parts[2:])
    if ends is None or weights is None:
        return None
    question = Question(folders, weights)
    return (question, ends) if line_of_telling(question, ends[0], ends[1]) == line else None


def weights_told(folders, parts):
    """The dict from lots to integers that the parts of a line tell, or None if they tell none."""
    found = {}
    for part in parts:
        figures, colon, names = part.partition(":")
        lot = lot_of(folders, names.split("+"))
        number = integer_told(figures)
        if lot is None or number is None:
            return None
        found[lot] = number
    return found


def integer_told(text):
    """The integer that a string tells, or None if it tells none."""
    figures = text[1:] if text.startswith("-") else text
    if len(figures) == 0 or not all([figure in FIGURES for figure in figures]):
        return None
    return int(text)
