"""Folders in an order, and their lots."""

from blockshares.errors import BadFolders, NoFolder
from blockshares.values import is_list, is_name

MOST_FOLDERS = 5
MOST_IN_CHAIN = 12


class Folders:
    """Some folders in an order; they never change."""

    def __init__(self, names, *, chain=False):
        wrong = first_wrong(names, MOST_IN_CHAIN if chain else MOST_FOLDERS)
        if wrong is not None:
            raise BadFolders(wrong)
        self.names = tuple(names)
        self.chain = chain
        lots = rows_of_neighbours(self.names) if chain else choices(self.names)
        # A dict from the lots, in their order, to their places in it: it finds a lot at once.
        self.places = {lot: at for at, lot in enumerate(lots)}

    def __len__(self):
        return len(self.names)

    def __contains__(self, x):
        return x in self.names

    def __eq__(self, other):
        return isinstance(other, Folders) and self.names == other.names and self.chain == other.chain

    def lots(self):
        """The list of all lots, in their order."""
        return list(self.places)


def first_wrong(names, most):
    """The index of the first thing for which names can not be those of at most so many folders, or None."""
    if not is_list(names) or len(names) == 0:
        return 0
    for at, name in enumerate(names):
        # Only names are compared with those before: other objects may not be fit for it.
        if at == most or not is_name(name) or name in names[:at]:
            return at
    return None


def choices(things):
    """The list of all choices of one or more of some things, in the order of lots."""
    return [choice for many in range(1, len(things) + 1) for choice in choices_of(things, many)]


def choices_of(things, many):
    """The list of all choices of so many of some things, in the order of lots."""
    rows = [()]
    for k in range(many):
        rows = [row + (at,) for row in rows for at in range(row[-1] + 1 if k > 0 else 0, len(things))]
    return [tuple([things[at] for at in row]) for row in rows]


def rows_of_neighbours(names):
    """The list of all rows of neighbours in a tuple of names, in the order of lots."""
    many = len(names)
    return [names[at:at + long] for long in range(1, many + 1) for at in range(many + 1 - long)]


def lot_of(folders, thing):
    """The lot that an object tells, in the order of the folders, or None if it is none."""
    if not is_list(thing):
        return None
    lot = tuple([name for name in folders.names if name in thing])
    # What is no folder, or stands twice, makes the list longer than the lot.
    return lot if len(lot) == len(thing) and lot in folders.places else None


def check_named(folders, names):
    """Refuses names if one of them is none of the folders."""
    # The document names no error for what is no list here: it is refused as a folder.
    if not is_list(names):
        raise NoFolder(names)
    for name in names:
        if name not in folders:
            raise NoFolder(name)
