"""Histories: a store that deeds may have changed, nobody tells how much, and what is sure of each moment."""

from blockshares.books import ends_of
from blockshares.errors import BadTelling, NoFolder, NoMoment, NotTold, UnlikeFolders, Wrong
from blockshares.folders import Folders, lot_of
from blockshares.stores import Store, check_names, check_new_name, put_behind
from blockshares.tableaus import Tableau
from blockshares.values import NOTHING, is_integer, plus, size_of


class Span:
    """The least or the greatest answer, a life that has it, and weights that no life that fits can pass."""

    def __init__(self, value, life, weights, times):
        self.value = value
        self.life = life
        self.weights = weights
        self.times = times


class History:
    """A store of some folders, the deeds done to it, and what is told of its moments."""

    def __init__(self, folders):
        self.folders = folders
        # The folders of all moments ahead of the present one.
        self.past = []
        # What the deeds let be, ascending: for each moment a lot, or () for no folder. Among them are the blocks that
        # have not come yet, as they may come into a folder.
        self.paths = [((),)] + [(lot,) for lot in ascending(folders.lots())]
        # Rows (moment, question, low, high).
        self.tellings = []

    def __len__(self):
        return len(self.past)

    def __getitem__(self, at):
        place = place_told(self, at)
        if place is None:
            raise NotTold(at)
        moment, question, low, high = self.tellings[place]
        return (low, high)

    def __setitem__(self, at, worth):
        if self.folders != at.folders:
            raise UnlikeFolders()
        ends = ends_of(worth)
        if ends is None:
            raise BadTelling(worth)
        telling = (len(self), at, ends[0], ends[1])
        place = place_told(self, at)
        if place is None:
            self.tellings = self.tellings + [telling]
        else:
            self.tellings = self.tellings[:place] + [telling] + self.tellings[place + 1:]

    def __iter__(self):
        raise TypeError("a history is not iterated over")

    def write(self, name):
        """New blocks may have come into the lot of a folder alone."""
        if name not in self.folders:
            raise NoFolder(name)
        self.go_on(self.folders, [[path[-1]] if has_come(path) else [(), (name,)] for path in self.paths])

    def leave(self, name):
        """Of each lot that holds a folder some blocks may have left it."""
        if name not in self.folders:
            raise NoFolder(name)
        self.go_on(self.folders, [lots_behind_leave(self.folders, path[-1], name) for path in self.paths])

    def copy(self, name, new):
        """Puts a new folder right behind one, which shares all of its blocks."""
        check_new_name(self.folders, name, new)
        folders = Folders(put_behind(self.folders.names, name, new), chain=self.folders.chain)
        self.go_on(folders, [[put_behind(path[-1], name, new)] for path in self.paths])

    def strike(self, names):
        """Takes folders away, and what they alone hold."""
        check_names(self.folders, names)
        folders = Folders(not_among(self.folders.names, names), chain=self.folders.chain)
        self.go_on(folders, [[not_among(path[-1], names)] for path in self.paths])

    def go_on(self, folders, nexts):
        """Comes to the next moment; nexts are, for each path, the lots in which its blocks may lie then, ascending."""
        # Longer paths are ascending, too, as all of them are of the same length.
        self.paths = [path + (lot,) for path, lots in zip(self.paths, nexts) for lot in lots]
        self.past = self.past + [self.folders]
        self.folders = folders

    def folders_at(self, moment):
        """The Folders of a moment, None for the present one."""
        at = moment_told(self, moment)
        return self.past[at] if at < len(self.past) else self.folders

    def threads(self):
        """The list of all threads, ascending."""
        return [path for path in self.paths if has_come(path)]

    def told(self):
        """The list of all tellings, (moment, question, low, high), as they were first told."""
        return list(self.tellings)

    def store_at(self, life, moment=None):
        """The store of a life at a moment."""
        at = moment_told(self, moment)
        folders = self.folders_at(at)
        sizes = {}
        for thread, size in life.items():
            lot = lot_of(folders, thread[at])
            if lot is not None:
                sizes[lot] = plus(sizes.get(lot, NOTHING), size_of(size))
        return Store(folders, sizes)

    def fits(self):
        """A life that fits, or None."""
        tableau = tableau_of_lives(self)
        return None if tableau.settle() is not None else life_with(self, tableau.point())

    def wrong(self):
        """Weights that show that no life fits, or None."""
        return tableau_of_lives(self).settle()

    def least(self, question, moment=None):
        """The Span of the least answer of all lives that fit, or None if there is no end."""
        return span_of(self, question, moment, -1)

    def greatest(self, question, moment=None):
        """The Span of the greatest answer of all lives that fit, or None if there is no end."""
        return span_of(self, question, moment, 1)

    def grows(self, question, moment=None):
        """None if the greatest answer has an end, else a life, of an answer above 0, that can be added for ever."""
        way = aimed_at_moment(self, question, moment, 1).rise()
        return None if way is None else life_with(self, way)


def ascending(lots):
    """The list of some lots as Python orders tuples."""
    found = []
    for lot in lots:
        found.insert(len([less for less in found if less < lot]), lot)
    return found


def has_come(path):
    """Whether the blocks of a path lie in a lot at some moment."""
    return any([len(lot) > 0 for lot in path])


def lots_behind_leave(folders, lot, name):
    """The list of the lots, ascending, in which the blocks of a lot may lie when some have left a folder."""
    others = not_among(lot, (name,))
    if name not in lot or (len(others) > 0 and others not in folders.places):
        return [lot]
    return ascending([lot, others])


def not_among(lot, names):
    """What is left of a lot, or of all folders, without some names."""
    return tuple([name for name in lot if name not in names])


def moment_told(history, thing):
    """The moment that an object tells, None for the present one."""
    if thing is None:
        return len(history)
    if not is_integer(thing) or not 0 <= thing <= len(history):
        raise NoMoment(thing)
    return thing


def place_told(history, thing):
    """The place at which a question is told at the present moment, or None for any object that is not."""
    for place, (moment, question, low, high) in enumerate(history.tellings):
        if moment == len(history) and question == thing:
            return place
    return None


def row_of_threads(history, question, moment):
    """The list of how often each thread counts in a question at a moment."""
    return [question.table.get(thread[moment], 0) for thread in history.threads()]


def tableau_of_lives(history):
    """The tableau of all tellings, a size for each thread."""
    rows = [row_of_threads(history, question, moment) for moment, question, low, high in history.tellings]
    return Tableau(len(history.threads()), rows, [(low, high) for moment, question, low, high in history.tellings])


def aimed_at_moment(history, question, moment, sign):
    """The settled tableau with a question at a moment, or what is below 0 of it if sign is -1, as its aim."""
    at = moment_told(history, moment)
    if history.folders_at(at) != question.folders:
        raise UnlikeFolders()
    tableau = tableau_of_lives(history)
    weights = tableau.settle()
    if weights is not None:
        raise Wrong(weights)
    return tableau.aimed([sign * number for number in row_of_threads(history, question, at)])


def span_of(history, question, moment, sign):
    """The Span of the greatest answer, or of the least one if sign is -1; None if there is no end."""
    tableau = aimed_at_moment(history, question, moment, sign)
    if tableau.rise() is not None:
        return None
    top, bottom = tableau.height()
    weights, many = tableau.proof()
    return Span((sign * top, bottom), life_with(history, tableau.point()), weights, many)


def life_with(history, sizes):
    """The life that has these sizes, one for each thread in their order."""
    return {thread: size_of(size) for thread, size in zip(history.threads(), sizes) if size_of(size) != NOTHING}
