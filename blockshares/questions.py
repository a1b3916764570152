"""Questions: how often the blocks of each lot count."""

from blockshares.errors import BadLot, BadNumber, UnlikeFolders
from blockshares.folders import check_named, lot_of
from blockshares.stores import Store
from blockshares.values import is_integer


class Question:
    """A number for each lot of some folders; it never changes."""

    def __init__(self, folders, weights=None):
        told = {} if weights is None else numbers_by_lots(folders, weights)
        self.folders = folders
        # The numbers that are not 0, in the order of lots.
        self.table = {lot: told[lot] for lot in folders.places if told.get(lot, 0) != 0}

    def __eq__(self, other):
        return isinstance(other, Question) and self.folders == other.folders and self.table == other.table

    def __le__(self, other):
        return first_more(self, other) is None

    def __add__(self, other):
        return Question(self.folders, added(self, other, 1))

    def __sub__(self, other):
        return Question(self.folders, added(self, other, -1))

    def __neg__(self):
        return self * -1

    def __mul__(self, other):
        if not is_integer(other):
            raise BadNumber(other)
        return Question(self.folders, {lot: self.table[lot] * other for lot in self.table})

    def __rmul__(self, other):
        return self * other

    def weight(self, lot):
        """How often the blocks of a lot count."""
        known = lot_of(self.folders, lot)
        if known is None:
            raise BadLot(lot)
        return self.table.get(known, 0)

    def counts(self):
        """The dict of the numbers that are not 0, in the order of lots."""
        return {lot: self.table[lot] for lot in self.table}

    def in_freed(self):
        """The dict of the numbers that are not 0, so many times freed of which lots the question is."""
        found = {}
        # What is freed with a lot lies in its parts: so a lot's own number is what its greater ones leave of it.
        for lot in list(self.folders.places)[::-1]:
            over = [found[more] for more in found if all([name in more for name in lot])]
            found[lot] = self.table.get(lot, 0) - sum(over)
        return {lot: found[lot] for lot in self.folders.places if found[lot] != 0}


def numbers_by_lots(folders, weights):
    """The integers that a dict tells, by lots as the folders tell them."""
    found = {}
    for key, number in weights.items():
        lot = lot_of(folders, key)
        if lot is None or lot in found:
            raise BadLot(key)
        if not is_integer(number):
            raise BadNumber(number)
        found[lot] = number
    return found


def row_of(question):
    """The list of the numbers for all lots, in their order."""
    return [question.table.get(lot, 0) for lot in question.folders.places]


def added(one, other, sign):
    """The numbers of the one question and, so many times sign, those of the other, by lots."""
    if one.folders != other.folders:
        raise UnlikeFolders()
    return {lot: one.table.get(lot, 0) + sign * other.table.get(lot, 0) for lot in one.folders.places}


def first_more(one, other):
    """The first lot that the one question counts more often than the other, or None."""
    more = added(one, other, -1)
    for lot in more:
        if more[lot] > 0:
            return lot
    return None


def more_at(one, other):
    """None if one <= other, else the store with a size of 1 for the first lot that the one counts more often."""
    lot = first_more(one, other)
    return None if lot is None else Store(one.folders, {lot: 1})


def counting(folders, lots):
    """The question that counts the blocks of some lots once."""
    return Question(folders, {lot: 1 for lot in lots})


def refers(folders, names):
    """What at least one of the named folders holds."""
    check_named(folders, names)
    return counting(folders, [lot for lot in folders.places if any([name in lot for name in names])])


def freed(folders, names):
    """What nobody but named folders holds."""
    check_named(folders, names)
    return counting(folders, [lot for lot in folders.places if all([name in names for name in lot])])


def shared(folders, names):
    """What all of the named folders hold; all blocks if none is named."""
    check_named(folders, names)
    return counting(folders, [lot for lot in folders.places if all([name in lot for name in names])])


def just(folders, names):
    """What the named folders hold and no other one."""
    check_named(folders, names)
    named = tuple([name for name in folders.names if name in names])
    return counting(folders, [lot for lot in folders.places if lot == named])


def sent(folders, one, other):
    """What the folder other holds and the folder one does not."""
    check_named(folders, [one, other])
    return counting(folders, [lot for lot in folders.places if other in lot and one not in lot])


def whole(folders):
    """All blocks."""
    return counting(folders, folders.lots())
