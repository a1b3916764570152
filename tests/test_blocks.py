"""Points 9 to 11 against a second reckoning: blocks, each with a size and the set of folders that hold it."""

import unittest
from fractions import Fraction

from blockshares.errors import BadLot
from blockshares.folders import Folders
from blockshares.stores import Store


def as_pair(number):
    return (number.numerator, number.denominator)


class Blocks:
    """Folders in an order, and blocks: pairs of the set of their folders and a size."""

    def __init__(self, names, chain, blocks):
        self.names = list(names)
        self.chain = chain
        self.blocks = blocks

    def seen(self, kept):
        names = [name for name in self.names if name in kept]
        return Blocks(names, self.chain, [(held & set(kept), size) for held, size in self.blocks if held & set(kept)])

    def copied(self, name, new):
        at = self.names.index(name) + 1
        blocks = [(held | {new} if name in held else held, size) for held, size in self.blocks]
        return Blocks(self.names[:at] + [new] + self.names[at:], self.chain, blocks)

    def renamed(self, name, new):
        blocks = [(held - {name} | {new} if name in held else held, size) for held, size in self.blocks]
        return Blocks([new if each == name else each for each in self.names], self.chain, blocks)

    def left(self, name, lot, size):
        rest = set(lot) - {name}
        return Blocks(self.names, self.chain, self.blocks + [(set(lot), -size)] + ([(rest, size)] if rest else []))

    def sizes(self):
        sums = {}
        for held, size in self.blocks:
            lot = tuple([name for name in self.names if name in held])
            sums[lot] = sums.get(lot, 0) + size
        rows = sorted([(len(lot), [self.names.index(name) for name in lot], lot) for lot in sums if sums[lot]])
        return [(lot, as_pair(sums[lot])) for many, places, lot in rows]


def start(names, chain):
    """Two of these: a store and the blocks of which it consists."""
    folders = Folders(names, chain=chain)
    lots = folders.lots()
    blocks = [(set(lot), Fraction(at + 1, at % 3 + 1)) for at, lot in enumerate(lots) if at % 4 != 1]
    sizes = {lot[::-1]: [at + 1, at % 3 + 1] for at, lot in enumerate(lots) if at % 4 != 1}
    return Store(folders, sizes), Blocks(names, chain, blocks)


class SameAsBlocks(unittest.TestCase):

    def same(self, store, blocks):
        self.assertEqual(store.folders, Folders(blocks.names, chain=blocks.chain))
        self.assertEqual(list(store.sizes().items()), blocks.sizes())
        self.assertEqual(store.total(), as_pair(sum([size for held, size in blocks.blocks], Fraction(0))))

    def starts(self):
        for names, chain in (("ba", False), ("cab", False), ("dbca", False), ("cab", True), ("dbca", True)):
            store, blocks = start(list(names), chain)
            with self.subTest(names=names, chain=chain):
                self.same(store, blocks)
                yield store, blocks

    def test_what_some_see_and_strike(self):
        for store, blocks in self.starts():
            for kept in store.folders.places:
                gone = [name for name in store.folders.names if name not in kept]
                self.same(store & list(kept[::-1]), blocks.seen(kept))
                self.same(store.strike(gone), blocks.seen(kept))

    def test_copy_and_rename(self):
        for store, blocks in self.starts():
            for name in store.folders.names:
                self.same(store.copy(name, "new"), blocks.copied(name, "new"))
                self.same(store.copy(name, "new") & ["new", name], blocks.copied(name, "new").seen(["new", name]))
                self.same(store.rename(name, "new"), blocks.renamed(name, "new"))

    def test_leave(self):
        for store, blocks in self.starts():
            lots = store.folders.lots()
            for lot in lots:
                for name in lot:
                    rest = tuple([each for each in lot if each != name])
                    size = Fraction(*store[lot]) / 3
                    if rest and rest not in lots:
                        self.assertRaises(BadLot, store.leave, name, lot, as_pair(size))
                    else:
                        self.same(store.leave(name, lot, as_pair(size)), blocks.left(name, lot, size))

    def test_sums_and_beside(self):
        for store, blocks in self.starts():
            doubled = Blocks(blocks.names, blocks.chain, blocks.blocks + blocks.blocks)
            self.same(store + store, doubled)
            self.same(2 * store, doubled)
            for chain in (False, True):
                one, more = start(["z"], chain)
                both = Blocks(blocks.names + ["z"], blocks.chain and chain, blocks.blocks + more.blocks)
                self.same(store | one, both)


if __name__ == "__main__":
    unittest.main()
