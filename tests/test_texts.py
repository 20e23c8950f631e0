"""Promise 100: books, tables and splits as texts."""

import itertools
import unittest

from keytables.errors import NoBook, NoSplit, NoTable, NoText
from keytables.texts import book_text, read_book, read_split, read_table, split_text, table_text
from plain_texts import book_of, split_of, table_of
from plainly import made_books, made_splits, made_tables
from things import (ALL, BOOKS, CHAINS, LONGEST, NO_BOOKS, NO_SPLITS_OF_BDF, NO_TABLES, NO_TEXTS, SIXTY_FOUR, TABLES,
                    twelve_hangings)

MANY_BOOKS = [*BOOKS, *CHAINS, *made_books()]
MANY_TABLES = [*TABLES, *made_tables()]
BDF = ("bdf", (("b", "d"),))

NO_BOOK_TEXTS = [
    "", " ", ":", "a", "ab", "ab ", ": a>b", "a :", " ab:", "ab: ", "ab:  ", "ab::", "ab:a>b", "ab a>b", "ab:  a>b",
    "ab: a>b ", "ab: a>b  b>a", " ab: a>b", "ab:\ta>b", "ab: a>b\tb>a", "ab: a>b\n", "\nab: a>b", "ab:\n", "ab:\t",
    "ab\t:",
    "ba:", "aa:", "abi:", "-:", "-: ->-", "AB:", "Ab:", "ab: A>b", "ab: a>B",
    "ab: a", "ab: >", "ab: a>", "ab: >b", "ab: a>b>a", "ab: a>>b", "ab: a<b", "ab: a-b", "ab: a->b", "ab: a>-b",
    "ab: -->a",
    "ab: a>--", "ab: a> b", "ab: a >b", "ab: a > b", "ab: a>b,b>a", "ab: a>b;", "ab: -", "ab: 0>a", "ab: a>c",
    "ab: c>a",
    "ab: ba>a", "ab: aa>b", "ab: a>ba", "ab: b>a a>b", "ab: a>b a>b", "ab: a>b a>a", "ab: a>b ->a", "ab: a>- a>-",
    "abcd: ->a ->ab ->abc ->abcd ->abd ->ac ->acd ->ad ->b ->bc ->bcd ->bd ->c",
    "a" * 900, " " * 900, ":" * 900, "ab:" + " a>b" * 224, "ab: " + "a" * 896, "ab: -1,20 3,4", "ab: 0,0",
]
NO_TABLE_TEXTS = [
    "", " ", ":", "a", "ab", "ab ", ": 0,0", "a :", " ab:", "ab: ", "ab:  ", "ab::", "ab:0,0", "ab 0,0", "ab:  0,0",
    "ab: 0,0 ", "ab: 0,0  1,1", " ab: 0,0", "ab:\t0,0", "ab: 0,0\t1,1", "ab: 0,0\n", "\nab: 0,0", "ab:\n", "ab:\t",
    "ba: 0,0", "aa: 0,0", "abi: 0,0,0", "-:", "AB: 0,0", "i: 0",
    "ab: 0", "ab: 0,0,0", "ab: 0,", "ab: ,0", "ab: ,", "ab: 0,,0", "ab: 0;0", "ab: 0.0", "ab: 0, 0", "ab: 0 ,0",
    "ab: 0 0",
    "ab: -0,0", "ab: 0,-0", "ab: +1,0", "ab: 0,+1", "ab: 00,0", "ab: 0,01", "ab: 007,1", "ab: -01,1", "ab: --1,0",
    "ab: 1-,0",
    "ab: -,0", "ab: 0,-", "ab: +,0", "ab: 1_0,0", "ab: 1e1,0", "ab: 0x1,0", "ab: a,b", "ab: (0,0)", "ab: True,0",
    "ab: 1.0,0",
    "ab: 1,0 0,0", "ab: 0,0 0,0", "ab: 0,1 0,0", "ab: 0,0 -1,0", "ab: 2,0 10,0 3,0", "ab: 10,0 9,0",
    "a: " + "9" * 31, "a: -" + "9" * 31, "a: 1" + "0" * 30, "a: -1" + "0" * 30, "a: " + "0" * 31,
    "a: " + "9" * 897, "a:" + " 1" * 449, "a" * 900, " " * 900, "a: " + "," * 897,
    "a: " + " ".join(str(number) for number in range(81)), "ab: a>b", "ab: ->a",
]
NO_SPLIT_TEXTS_OF_BDF = [
    "", " ", "/", "-", "b", "bd", "b/d", "bd/", "/bdf", "bdf/", "b//df", "b/d/f/", "b /df", "b/ df", " bdf", "bdf ",
    "bdf\n",
    "\tbdf", "b,d,f", "b|df", "b\\df", "-/bdf", "bdf/-", "b/-/df", "f/bd", "d/b/f", "df/b", "bdf/bdf", "b/b/df",
    "bf/bd/d",
    "a/bdf", "bdf/h", "bcdf", "bd/cf", "fdb", "b/fd", "bb/df", "BDF", "B/df", "bdf:", "bdf: b>d", "b>df", "('bdf',)",
    "b/d/f" + "/" * 895, "b" * 900, "/".join(["bdf"] * 65), "b/d/f/" * 150,
]


def near(text):
    """Texts that a sign fewer, a sign more, another sign, or two that change places make of a text."""
    for at in range(len(text) + 1):
        for sign in " ab>:-,/01\t\nA+":
            yield text[:at] + sign + text[at:]
            yield text[:at] + sign + text[at + 1:]
        yield text[:at] + text[at + 1:]
        yield text[:at] + text[at:at + 2][::-1] + text[at + 2:]


class Written(unittest.TestCase):
    def test_books(self):
        self.assertEqual(book_text(("abc", (("", "a"), ("ab", "c")))), "abc: ->a ab>c")
        self.assertEqual(book_text(("ab", ())), "ab:")
        self.assertEqual(book_text(("h", (("", ""), ("h", ""), ("h", "h")))), "h: ->- h>- h>h")
        self.assertEqual(book_text((ALL, (("", ALL), (ALL, "")))), "abcdefgh: ->abcdefgh abcdefgh>-")

    def test_tables(self):
        self.assertEqual(table_text(("ab", ((-1, 20), (3, 4)))), "ab: -1,20 3,4")
        self.assertEqual(table_text(("ab", ())), "ab:")
        self.assertEqual(table_text(("h", ((-LONGEST,), (0,), (LONGEST,)))), "h: -" + "9" * 30 + " 0 " + "9" * 30)
        self.assertEqual(table_text((ALL, ((0, 1, 2, 3, 4, 5, 6, -7),))), "abcdefgh: 0,1,2,3,4,5,6,-7")

    def test_splits(self):
        self.assertEqual(split_text(BDF, ("b", "df")), "b/df")
        self.assertEqual(split_text(BDF, ("bdf",)), "bdf")
        self.assertEqual(split_text((ALL, ()), tuple(ALL)), "a/b/c/d/e/f/g/h")
        self.assertEqual(split_text((ALL, ()), SIXTY_FOUR), "/".join(SIXTY_FOUR))

    def test_refused(self):
        for thing in NO_BOOKS:
            with self.subTest(thing=thing):
                self.assertRaises(NoBook, book_text, thing)
                for other in [("a",), (), None, "a"]:
                    self.assertRaises(NoBook, split_text, thing, other)
        for thing in NO_TABLES:
            with self.subTest(thing=thing):
                self.assertRaises(NoTable, table_text, thing)
        for thing in NO_SPLITS_OF_BDF:
            with self.subTest(thing=thing):
                self.assertRaises(NoSplit, split_text, BDF, thing)


class WrittenAndRead(unittest.TestCase):
    def test_books(self):
        for book in MANY_BOOKS:
            self.assertIs(type(book_text(book)), str)
            self.assertEqual(read_book(book_text(book)), book)

    def test_tables(self):
        for table in MANY_TABLES:
            self.assertIs(type(table_text(table)), str)
            self.assertEqual(read_table(table_text(table)), table)

    def test_splits(self):
        for seed, book in enumerate(MANY_BOOKS):
            for split in made_splits(book[0], seed):
                self.assertIs(type(split_text(book, split)), str)
                self.assertEqual(read_split(book, split_text(book, split)), split)
        self.assertEqual(read_split((ALL, ()), split_text((ALL, ()), SIXTY_FOUR)), SIXTY_FOUR)

    def test_what_is_read_is_of_tuples_throughout(self):
        self.assertEqual(repr(read_book("abc: ->a ab>c")), "('abc', (('', 'a'), ('ab', 'c')))")
        self.assertEqual(repr(read_table("ab: -1,20 3,4")), "('ab', ((-1, 20), (3, 4)))")
        self.assertEqual(repr(read_split(BDF, "b/df")), "('b', 'df')")

    def test_either_a_book_or_a_table(self):
        self.assertEqual(read_book("ab:"), ("ab", ()))
        self.assertEqual(read_table("ab:"), ("ab", ()))

    def test_as_many_as_there_may_be(self):
        self.assertEqual(read_book(book_text(("abcd", twelve_hangings()))), ("abcd", twelve_hangings()))
        self.assertEqual(len(read_book("abcd: ->a ->ab ->abc ->abcd ->abd ->ac ->acd ->ad ->b ->bc ->bcd ->bd")[1]), 12)
        rows = tuple((number,) for number in range(80))
        self.assertEqual(read_table(table_text(("a", rows))), ("a", rows))

    def test_nine_hundred_signs(self):
        text = "ab:" + "".join(f" {number},{10 ** 7 + number}" for number in range(10, 84)) + " 84," + "1" * 5
        self.assertEqual(len(text), 900)
        self.assertEqual(table_text(read_table(text)), text)


class NoSuchText(unittest.TestCase):
    def test_no_text(self):
        for thing in NO_TEXTS:
            with self.subTest(thing=thing):
                self.assertRaises(NoText, read_book, thing)
                self.assertRaises(NoText, read_table, thing)
                self.assertRaises(NoText, read_split, BDF, thing)

    def test_nearly_so_written(self):
        for text in NO_BOOK_TEXTS:
            with self.subTest(text=text):
                self.assertRaises(NoText, read_book, text)
        for text in NO_TABLE_TEXTS:
            with self.subTest(text=text):
                self.assertRaises(NoText, read_table, text)
        for text in NO_SPLIT_TEXTS_OF_BDF:
            with self.subTest(text=text):
                self.assertRaises(NoText, read_split, BDF, text)

    def test_no_book_ahead_of_no_text(self):
        for thing, text in itertools.product(NO_BOOKS, ["a", "", None, 7, "b//df"]):
            self.assertRaises(NoBook, read_split, thing, text)

    def test_a_split_of_another_head(self):
        self.assertEqual(read_split(("ab", ()), "a/b"), ("a", "b"))
        self.assertRaises(NoText, read_split, ("abc", ()), "a/b")
        self.assertRaises(NoText, read_split, ("a", ()), "a/b")

    def same(self, read, text, wanted):
        if wanted is None:
            self.assertRaises(NoText, read, text)
        else:
            self.assertEqual(repr(read(text)), repr(wanted), text)
        return wanted is not None

    def test_all_texts_near_to_written_ones(self):
        good = []
        for text in ["ab:", "ab: ->a", "abc: ->a ab>c b>-", "h: h>h", "ab: ->- a>b b>a", "bdf: ->b bd>f"]:
            good += [self.same(read_book, one, book_of(one)) for one in near(text)]
        for text in ["ab:", "a: 0", "ab: -1,20 3,4", "a: -10 0 1", "abc: 0,-11,100", "b: " + "1" * 30]:
            good += [self.same(read_table, one, table_of(one)) for one in near(text)]
        for text in ["b/d/f", "bd/bf", "bdf", "b/bd/bdf/df"]:
            good += [self.same(lambda one: read_split(BDF, one), one, split_of("bdf", one)) for one in near(text)]
        self.assertGreater(good.count(True), 100)
        self.assertGreater(good.count(False), 1000)

    def test_all_short_texts(self):
        for many in range(6):
            for signs in itertools.product("ab:> -", repeat=many):
                self.same(read_book, "".join(signs), book_of("".join(signs)))
            for signs in itertools.product("a: -0,1", repeat=many):
                self.same(read_table, "".join(signs), table_of("".join(signs)))


if __name__ == "__main__":
    unittest.main()
