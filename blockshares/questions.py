"""Questions: how often the blocks of each lot count."""

from blockshares.errors import BadLot, BadNumber
from blockshares.folders import lot_of
from blockshares.values import is_integer


class Question:
    """A number for each lot of some folders; it never changes."""

    def __init__(self, folders, weights=None):
        told = {} if weights is None else numbers_by_lots(folders, weights)
        self.folders = folders
        # The numbers that are not 0, in the order of lots.
        self.table = {lot: told[lot] for lot in folders.places if told.get(lot, 0) != 0}

    def __eq__(self, other):
        return isinstance(other, Question) and self.folders == other.folders and self.table == other.table

    def weight(self, lot):
        """How often the blocks of a lot count."""
        known = lot_of(self.folders, lot)
        if known is None:
            raise BadLot(lot)
        return self.table.get(known, 0)

    def counts(self):
        """The dict of the numbers that are not 0, in the order of lots."""
        return {lot: self.table[lot] for lot in self.table}


def numbers_by_lots(folders, weights):
    """The integers that a dict tells, by lots as the folders tell them."""
    found = {}
    for key, number in weights.items():
        lot = lot_of(folders, key)
        if lot is None or lot in found:
            raise BadLot(key)
        if not is_integer(number):
            raise BadNumber(number)
        found[lot] = number
    return found
