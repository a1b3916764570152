"""Point 28: texts of stores and books."""

import itertools
import math
import random
import re
import unittest

from helping import Case
from papers import book_of, some_book, some_folders

from blockshares.books import Book
from blockshares.errors import BadText
from blockshares.folders import Folders
from blockshares.questions import Question, refers, whole
from blockshares.stores import Store
from blockshares.texts import read, text_of

AB = Folders(["a", "b"])
BA = Folders(["b", "a"])
ABC = Folders(["a", "b", "c"])
CHAIN = Folders(["a", "b", "c"], chain=True)
FORTY = int("9" * 40)

HEAD = re.compile("(chained )?(store|book)(( [a-z]{1,8})+)")
INTEGER = "(?:0|-?[1-9][0-9]*)"
SIZE = re.compile("([a-z+]+) ([1-9][0-9]*)(?:/([1-9][0-9]*))?")
TELLING = re.compile(f"({INTEGER}|-) ({INTEGER}|-)((?: -?[1-9][0-9]*:[a-z+]+)*)")


def place_of(names, chain, lot):
    """Where a lot stands in the order of lots, as something that can be compared, or None if it is none."""
    at = [names.index(name) if name in names else -1 for name in lot.split("+")]
    if -1 in at or at != sorted(set(at)) or (chain and at != list(range(at[0], at[-1] + 1))):
        return None
    return (len(at), at)


def ascends(places):
    return None not in places and all([one < other for one, other in zip(places, places[1:])])


def bad_line(text):
    """The line that read refuses, reckoned by the table of point 28 alone, or None if the string is a text."""
    *lines, rest = text.split("\n")
    for at in range(len(lines)):
        if not begins(lines[:at + 1]):
            return at + 1
    return None if lines and not rest else len(lines) + 1


def begins(lines):
    """Whether these lines are a text. (All lines ahead of the last one are.)"""
    head = HEAD.fullmatch(lines[0])
    if head is None:
        return False
    names, chain = head[3].split(), head[1] is not None
    if len(set(names)) < len(names) or len(names) > (12 if chain else 5):
        return False
    rows = [(SIZE if head[2] == "store" else TELLING).fullmatch(line) for line in lines[1:]]
    if None in rows:
        return False
    if head[2] == "store":
        fit = [row[3] is None or (row[3] != "1" and math.gcd(int(row[2]), int(row[3])) == 1) for row in rows]
        return all(fit) and ascends([place_of(names, chain, row[1]) for row in rows])
    for row in rows:
        fit = "-" not in (row[1], row[2]) and int(row[1]) <= int(row[2])
        if not fit and (row[1] == "-") == (row[2] == "-"):
            return False
        if not ascends([place_of(names, chain, part.split(":")[1]) for part in row[3].split()]):
            return False
    return len(set([row[3] for row in rows])) == len(rows)


class TextCase(Case):

    def check_text(self, thing, text):
        self.assertEqual(text_of(thing=thing), text)
        found = read(text=text)
        self.assertIs(found.__class__, thing.__class__)
        self.assertEqual(found.folders, thing.folders)
        if isinstance(thing, Store):
            self.assertEqual(found, thing)
        else:
            self.assertEqual(found.told(), thing.told())
        self.assertEqual(text_of(found), text)
        self.assertIsNone(bad_line(text))

    def check_refused(self, text, line):
        self.assertEqual(bad_line(text), line, text)
        self.refuses(BadText, {"line": line}, read, text)

    def check_string(self, text):
        """Read does what the table says; whether the string is a text."""
        line = bad_line(text)
        if line is None:
            self.assertEqual(text_of(read(text)), text)
        else:
            self.refuses(BadText, {"line": line}, read, text)
        return line is None


class Stores(TextCase):

    def test_stores(self):
        self.check_text(
            Store(AB, {("a",): 15, ("a", "b"): 15, ("b",): 5}), "store a b\na 15\nb 5\na+b 15\n")
        self.check_text(
            Store(BA, {("a",): (1, 2), ("a", "b"): (6, 4), ("b",): (8, 2)}), "store b a\nb 4\na 1/2\nb+a 3/2\n")
        self.check_text(
            Store(CHAIN, {("c", "b"): 3, ("c",): (10, 3)}), "chained store a b c\nc 10/3\nb+c 3\n")

    def test_without_lines_behind_the_first(self):
        self.check_text(Store(ABC), "store a b c\n")
        self.check_text(Store(CHAIN, {("a",): 0}), "chained store a b c\n")
        self.check_text(Store(Folders(["store"])), "store store\n")
        self.check_text(Store(Folders(["chained", "book"], chain=True)), "chained store chained book\n")

    def test_numbers_of_forty_figures(self):
        self.check_text(Store(AB, {("b",): FORTY, ("a",): (FORTY - 1, FORTY), ("a", "b"): (1, FORTY)}),
                        f"store a b\na {FORTY - 1}/{FORTY}\nb {FORTY}\na+b 1/{FORTY}\n")
        self.check_refused(f"store a b\na {FORTY}/{FORTY}\n", 2)
        self.check_refused(f"store a b\na {FORTY}/3\n", 2)

    def test_many_folders(self):
        five = Folders(["abcdefgh", "z", "book", "y", "x"])
        self.check_text(
            Store(five, {lot: at + 1 for at, lot in enumerate(five.lots())}),
            "store abcdefgh z book y x\n" + "".join([
                f"{'+'.join(lot)} {at + 1}\n" for at, lot in enumerate(five.lots())]))
        twelve = Folders(list("lkjihgfedcba"), chain=True)
        self.check_text(Store(twelve, {tuple("lkjihgfedcba"): 1, ("a",): 2}),
                        "chained store l k j i h g f e d c b a\na 2\nl+k+j+i+h+g+f+e+d+c+b+a 1\n")

    def test_what_is_no_line(self):
        for line in (
                "", " ", "a", "a ", " a 1", "a 1 ", "a  1", "a 0", "a -1", "a -0", "a 00", "a 01", "a +1", "a 1/1",
                "a 2/4", "a 0/1", "a 0/2", "a 1/0", "a 1/-2", "a 3/02", "a 03/2", "a 1/", "a /2", "a 1//2",
                "a 1/2/3", "a -", "a 1.5", "b+a 1", "a+a 1", "a+d 1", "d 1", "+a 1", "a+ 1", "a++b 1", "A 1",
                "a,b 1", "a b 1", "1 a", "a:1", "a+b", "- 1 1:a", "1 1", "1 1 1:a", "store a b c", "a 1 b 2",
                "a 1_0", "a 1e3", "a 0x1", "a\\ 1", "a 1/2 "):
            with self.subTest(line=line):
                self.check_refused(f"store a b c\n{line}\n", 2)
                self.check_refused(f"store a b c\n{line}\na 1\n", 2)
                self.check_refused(f"store a b c\na+b 1/3\n{line}\n", 3)

    def test_lots_out_of_order_or_twice(self):
        for lines, line in (
                (["a 1", "a 1"], 3), (["a 1", "a 2"], 3), (["b 1", "a 1"], 3), (["a+b 1", "c 1"], 3),
                (["a 1", "b 1", "a+c 1", "a+b 1", "x"], 5), (["a+b+c 1", "a+b+c 1"], 3), (["a+b+c 1", "a 1", "a 1"],
                3)):
            self.check_refused("\n".join(["store a b c"] + lines) + "\n", line)
        self.check_refused("chained store a b c\na+c 1\n", 2)
        self.check_refused("chained store a b c\nb+c 1\na+b 1\n", 3)

    def test_a_line_too_many(self):
        text = "store a\na 1\n"
        self.check_text(Store(Folders(["a"]), {("a",): 1}), text)
        for line in ("", "a 1", "b 1", "a", "store a"):
            self.check_refused(text + line + "\n", 3)
        self.check_refused(text + "\n\n", 3)


class Books(TextCase):

    def test_books(self):
        book = Book(AB)
        book[refers(AB, ["a"])] = 30
        book[refers(AB, ["b"])] = (None, 20)
        book[-whole(AB) * 7] = (-40, None)
        book[Question(AB, {("a", "b"): -1, ("b",): 5})] = (-3, 4)
        self.check_text(book, "book a b\n30 30 1:a 1:a+b\n- 20 1:b 1:a+b\n-40 - -7:a -7:b -7:a+b\n-3 4 5:b -1:a+b\n")
        book = Book(BA)
        book[whole(BA)] = (0, None)
        self.check_text(book, "book b a\n0 - 1:b 1:a 1:b+a\n")
        book = Book(CHAIN)
        book[refers(CHAIN, ["a"])] = (None, 0)
        self.check_text(book, "chained book a b c\n- 0 1:a 1:a+b 1:a+b+c\n")

    def test_without_lines_behind_the_first(self):
        self.check_text(Book(AB), "book a b\n")
        self.check_text(Book(Folders(["book"])), "book book\n")
        self.check_text(Book(Folders(["store"], chain=True)), "chained book store\n")

    def test_a_question_that_counts_nothing(self):
        book = Book(AB)
        book[Question(AB)] = (-1, 1)
        self.check_text(book, "book a b\n-1 1\n")
        self.check_refused("book a b\n-1 1\n-1 1\n", 3)
        self.check_refused("book a b\n-1 1 0:a\n", 2)

    def test_numbers_of_forty_figures(self):
        self.check_text(book_of(AB, [(whole(AB) * FORTY, -FORTY, FORTY), (whole(AB), FORTY, None)]),
                        f"book a b\n-{FORTY} {FORTY} {FORTY}:a {FORTY}:b {FORTY}:a+b\n{FORTY} - 1:a 1:b 1:a+b\n")

    def test_books_that_no_store_fits(self):
        book = book_of(AB, [(whole(AB), None, -5), (whole(AB) * 2, 3, 3)])
        self.check_text(book, "book a b\n- -5 1:a 1:b 1:a+b\n3 3 2:a 2:b 2:a+b\n")
        self.assertIsNone(read(text_of(book)).fits())

    def test_what_is_no_line(self):
        for line in (
                "", " ", "1", "1 ", "- -", "- - 1:a", "2 1 1:a", "-1 -2 1:a", "1 1 ", " 1 1", "1  1", "1 1  1:a",
                "1 1 1:a ", "-0 1 1:a", "1 -0 1:a", "01 1 1:a", "1 01 1:a", "+1 1 1:a", "1 +1", "-- 1 1:a",
                "1 1 0:a", "1 1 -0:a", "1 1 01:a", "1 1 +1:a", "1 1 1:", "1 1 :a", "1 1 a", "1 1 1", "1 1 1:a:b",
                "1 1 -:a", "1 1 1/2:a", "1/2 1 1:a", "1 1 1:b 1:a", "1 1 1:a 1:a", "1 1 1:a+b 1:c", "1 1 1:b+a",
                "1 1 1:a+a", "1 1 1:a+d", "1 1 1:d", "1 1 1:a+", "1 1 1:A", "a 1", "1 a", "x 1 1:a", "None 1 1:a",
                "book a b c", "1 1 1: a", "1 1 1 :a", "1 1,1:a", "1_0 11"):
            with self.subTest(line=line):
                self.check_refused(f"book a b c\n{line}\n", 2)
                self.check_refused(f"book a b c\n{line}\n1 1 1:a\n", 2)
                self.check_refused(f"book a b c\n- 3 2:b 2:a+b\n{line}\n", 3)

    def test_the_same_question_twice(self):
        self.check_refused("book a b\n1 1 1:a\n1 1 1:a\n", 3)
        self.check_refused("book a b\n1 1 1:a\n2 - 1:b\n- 3 1:a\n5 5 1:b\n", 4)
        self.check_text(book_of(AB, [(refers(AB, ["a"]), 1, 1), (refers(AB, ["a"]) * 2, 1, 1)]),
                        "book a b\n1 1 1:a 1:a+b\n1 1 2:a 2:a+b\n")
        self.check_refused("chained book a b c\n1 1 1:a+c\n", 2)


class Strings(TextCase):

    def test_the_empty_string_and_line_feeds(self):
        self.check_refused("", 1)
        for many in (1, 2, 5):
            self.check_refused("\n" * many, 1)

    def test_a_missing_last_line_feed(self):
        for text in ("store a b", "store", "stor", "book a", "chained store a", "chained", "x", " "):
            self.check_refused(text, 1)
        for text in ("store a b\na 1", "store a b\na", "store a b\nx", "book a\n1 1", "book a\n-", "store a\n "):
            self.check_refused(text, 2)
        self.check_refused("store a b\na 1\nb 1", 3)
        self.check_refused("store a b\na 1\na 1", 3)
        # The first line that is wrong is told.
        self.check_refused("store a b\na 0\nb 1", 2)
        self.check_refused("sture a b\na 0\nb", 1)

    def test_what_is_no_first_line(self):
        for line in (
                "", " ", "store", "book", "chained", "chained store", "chained book", "store ", "store  a",
                "store a ", " store a", "store a  b", "Store a", "store a a", "store a b a", "store A", "store a1",
                "store abcdefghi", "store a+b", "store a,b", "store a b c d e f",
                "chained store a b c d e f g h i j k l m", "chain store a", "chained  store a",
                "chained chained store a", "store\\", "folders a", "a", "a 1", "store a b c d e a", "books a",
                "chained store a a", "-", "1 1 1:a"):
            with self.subTest(line=line):
                self.check_refused(line + "\n", 1)
                self.check_refused(line + "\na 1\n", 1)
                self.check_refused(line + "\n\n\n", 1)

    def test_all_short_strings_behind_a_first_line(self):
        texts = 0
        for head, signs in (
                ("store a\n", "a 1/02\n"), ("store a b\n", "ab+ 1\n"), ("book a\n", "a -1:\n"), ("", "st \n")):
            for long in range(6):
                for string in itertools.product(signs, repeat=long):
                    texts += self.check_string(head + "".join(string))
        self.assertGreater(texts, 20)

    def test_texts_with_drawn_changes(self):
        chance = random.Random(28)
        signs = "ab+ 012-/:\nz~!"
        texts = 0
        for k in range(4000):
            text = chance.choice([self.some_store, self.some_book])(chance)
            for step in range(chance.randrange(1, 3)):
                at = chance.randrange(len(text) + 1)
                text = text[:at] + chance.choice(["", chance.choice(signs), text[at:at + 1] * 2]) + text[
                    at + chance.choice([0, 1, 1, 3]):]
            if chance.random() < 0.2:
                lines = text.split("\n")
                chance.shuffle(lines)
                text = "\n".join(lines)
            texts += self.check_string(text)
        self.assertTrue(200 < texts < 3000)

    def some_store(self, chance):
        folders = some_folders(chance)
        return text_of(Store(folders, {
            lot: (chance.randrange(12), chance.choice([1, 1, 2, 3, 12])) for lot in folders.lots()[:8]
            if chance.random() < 0.6}))

    def some_book(self, chance):
        return text_of(some_book(some_folders(chance), chance, chance.randrange(5)))

    def test_written_and_read_again(self):
        chance = random.Random(9)
        for k in range(200):
            for text in (self.some_store(chance), self.some_book(chance)):
                self.check_text(read(text), text)

    def test_what_is_read_is_new(self):
        text = "book a b\n1 - 1:a\n"
        one, other = read(text), read(text)
        one[whole(AB)] = 3
        self.assertEqual((len(one), len(other), len(read(text))), (2, 1, 1))
        self.assertEqual(text_of(one), "book a b\n1 - 1:a\n3 3 1:a 1:b 1:a+b\n")
        one.drop(Question(AB, {("a",): 1}))
        self.assertEqual(text_of(one), "book a b\n3 3 1:a 1:b 1:a+b\n")


if __name__ == "__main__":
    unittest.main()
