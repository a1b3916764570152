"""What several tests need."""

import unittest

from blockshares.books import Book
from blockshares.errors import BadLot, ShareError
from blockshares.folders import Folders
from blockshares.histories import History
from blockshares.keeping import Keeper
from blockshares.questions import Question
from blockshares.stores import Store


def any_objects():
    """Objects of all kinds that point 3 lists; none is a name, a lot, a size or a list of folders a to e."""
    z = Folders(["z"])
    return [
        -1, -(10 ** 24), True, False, None, "", "A", "a b", "abcdefghi", "z9", "aa\n", "\u00e9", "ab+",
        [], (), [[]], ((),), [None], (True, 1), [1, 0], [1, -1], (-1, 2), [1, 2, 3], ("a", 1), [["a"]], (1, False),
        {}, {"a": 1}, {("a",): 1}, [{}], ("a", "a"), ["a", "zz"], [("a",), "b"],
        z, Store(z), Store(z, {("z",): 3}), Question(z), Question(z, {("z",): 1}), ShareError(), BadLot("a"), [z], (z,),
        Book(z), [Book(z)], History(z), Keeper(Store(z)), Book(z).least(Question(z)), History(z).least(Question(z)),
    ]


def can_be_key(thing):
    try:
        hash(thing)
    except TypeError:
        return False
    return True


class Case(unittest.TestCase):
    """A test case that looks at the whole of an error."""

    def refuses(self, error, held, call, *args, **named):
        """The call raises just this class of error, whose attributes are held; the objects themselves or copies."""
        with self.assertRaises(ShareError) as caught:
            call(*args, **named)
        self.assertIs(caught.exception.__class__, error)
        self.assertEqual(caught.exception.__dict__, held)
        for name, thing in held.items():
            self.assertIs(getattr(caught.exception, name).__class__, thing.__class__)
