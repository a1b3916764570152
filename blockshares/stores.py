"""Stores: a size for each lot of some folders."""

from blockshares.errors import BadFolders, BadLot, BadName, BadSize, Lacking, NoFolder, NotStore, Taken, UnlikeFolders
from blockshares.folders import Folders, check_named, choices, lot_of
from blockshares.values import NOTHING, is_less, is_list, is_name, minus, plus, size_of, sum_of, times


class Store:
    """A size for each lot of some folders; it never changes."""

    def __init__(self, folders, sizes=None):
        told = {} if sizes is None else by_lots(folders, sizes)
        for size in told.values():
            if size_of(size) is None:
                raise BadSize(size)
        self.folders = folders
        # The sizes above 0, in the order of lots.
        self.table = {lot: size_of(told[lot]) for lot in folders.places if size_of(told.get(lot, 0)) != NOTHING}

    @classmethod
    def of_sizes(cls, folders, sizes):
        """The store whose answers to refers(folders, lot) are told, for each lot."""
        told = by_lots(folders, sizes)
        for lot in folders.places:
            if lot not in told:
                raise Lacking(lot)
        for lot in folders.places:
            if size_of(told[lot]) is None:
                raise BadSize(told[lot])
        referred = {lot: size_of(told[lot]) for lot in folders.places}
        found = {lot: size_by_refers(folders, referred, lot) for lot in folders.places}
        for lot in folders.places:
            if is_less(found[lot], NOTHING):
                raise NotStore(lot)
        return cls(folders, found)

    def __call__(self, question):
        if self.folders != question.folders:
            raise UnlikeFolders()
        return sum_of([times(self.table[lot], (question.weight(lot), 1)) for lot in self.table])

    def __getitem__(self, at):
        lot = lot_of(self.folders, at)
        if lot is None:
            raise BadLot(at)
        return self.table.get(lot, NOTHING)

    def __iter__(self):
        raise TypeError("a store is not iterated over")

    def __contains__(self, x):
        return lot_of(self.folders, x) in self.table

    def __len__(self):
        return len(self.table)

    def __eq__(self, other):
        return isinstance(other, Store) and self.folders == other.folders and self.table == other.table

    def __le__(self, other):
        if self.folders != other.folders:
            raise UnlikeFolders()
        return not any([is_less(other[lot], self[lot]) for lot in self.table])

    def __add__(self, other):
        if self.folders != other.folders:
            raise UnlikeFolders()
        return Store(self.folders, {lot: plus(self[lot], other[lot]) for lot in self.folders.places})

    def __mul__(self, other):
        many = size_of(other)
        if many is None:
            raise BadSize(other)
        return Store(self.folders, {lot: times(self.table[lot], many) for lot in self.table})

    def __rmul__(self, other):
        return self * other

    def __or__(self, other):
        for name in other.folders.names:
            if name in self.folders:
                raise Taken(name)
        names = self.folders.names + other.folders.names
        folders = Folders(names, chain=self.folders.chain and other.folders.chain)
        return Store(folders, {**self.table, **other.table})

    def __and__(self, other):
        check_names(self.folders, other)
        kept = tuple([name for name in self.folders.names if name in other])
        folders = Folders(kept, chain=self.folders.chain)
        return Store(folders, sizes_seen(self.table, kept))

    def sizes(self):
        """The dict of the sizes above 0, in the order of lots."""
        return {lot: self.table[lot] for lot in self.table}

    def total(self):
        """The sum of all sizes."""
        return sum_of([self.table[lot] for lot in self.table])

    def strike(self, names):
        """The store without some folders, and without what they alone hold."""
        check_names(self.folders, names)
        return self & [name for name in self.folders.names if name not in names]

    def copy(self, name, new):
        """The store with a new folder right behind one, which shares all of its blocks."""
        check_new_name(self.folders, name, new)
        folders = Folders(put_behind(self.folders.names, name, new), chain=self.folders.chain)
        return Store(folders, {put_behind(lot, name, new): self.table[lot] for lot in self.table})

    def write(self, name, size):
        """The store with so much more in the lot of a folder alone."""
        if name not in self.folders:
            raise NoFolder(name)
        return self.share((name,), size)

    def share(self, lot, size):
        """The store with so much more in a lot."""
        known = lot_of(self.folders, lot)
        if known is None:
            raise BadLot(lot)
        more = size_of(size)
        if more is None:
            raise BadSize(size)
        return Store(self.folders, {**self.table, known: plus(self[known], more)})

    def leave(self, name, lot, size):
        """The store in which so much of a lot has left a folder."""
        if name not in self.folders:
            raise NoFolder(name)
        known = lot_of(self.folders, lot)
        if known is None or name not in known:
            raise BadLot(lot)
        others = tuple([each for each in known if each != name])
        if len(others) > 0 and others not in self.folders.places:
            raise BadLot(lot)
        much = size_of(size)
        if much is None or is_less(self[known], much):
            raise BadSize(size)
        sizes = {**self.table, known: minus(self[known], much)}
        if len(others) > 0:
            sizes[others] = plus(self[others], much)
        return Store(self.folders, sizes)

    def rename(self, name, new):
        """The store in which a folder has a new name."""
        check_new_name(self.folders, name, new)
        folders = Folders(put_instead(self.folders.names, name, new), chain=self.folders.chain)
        return Store(folders, {put_instead(lot, name, new): self.table[lot] for lot in self.table})


def by_lots(folders, told):
    """What a dict tells, by lots as the folders tell them."""
    found = {}
    for key, thing in told.items():
        lot = lot_of(folders, key)
        if lot is None or lot in found:
            raise BadLot(key)
        found[lot] = thing
    return found


def size_by_refers(folders, referred, lot):
    """The size of a lot, perhaps below 0, by what each lot refers to."""
    total = NOTHING
    # The part without folders is left out: it adds U(all) - U(all), which is 0.
    for part in choices(lot):
        others = tuple([name for name in folders.names if name not in part])
        alone = minus(referred[folders.names], referred.get(others, NOTHING))
        odd = (len(lot) - len(part)) % 2 == 1
        total = minus(total, alone) if odd else plus(total, alone)
    return total


def sizes_seen(table, kept):
    """The sizes as those folders see them that are kept."""
    found = {}
    for lot, size in table.items():
        seen = tuple([name for name in lot if name in kept])
        if len(seen) > 0:
            found[seen] = plus(found.get(seen, NOTHING), size)
    return found


def put_behind(names, name, new):
    """The names with a new one right behind one of them, where this stands among them."""
    found = []
    for each in names:
        found.append(each)
        if each == name:
            found.append(new)
    return tuple(found)


def put_instead(names, name, new):
    """The names with a new one in place of one of them, where this stands among them."""
    return tuple([new if each == name else each for each in names])


def check_names(folders, names):
    """Refuses what is no list of folders of these."""
    # The document names no error for what is no list here: it is refused as Folders refuses it.
    if not is_list(names):
        raise BadFolders(0)
    check_named(folders, names)


def check_new_name(folders, name, new):
    """Refuses what is none of the folders, and what can not be the name of a new one."""
    if name not in folders:
        raise NoFolder(name)
    if not is_name(new):
        raise BadName(new)
    if new in folders:
        raise Taken(new)
