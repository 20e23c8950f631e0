"""Promises 42 and 43: all that a table keeps, and the table that keeps just what follows from a book."""

import itertools
import unittest

from keytables.errors import NoBook, NoTable, TooWide
from keytables.seen import full_table, seen
from keytables.tables import first_broken, is_table, keeps
from plainly import agreeing, does_follow, hangings_of, is_kept, least_of, made_book, made_books, made_tables, sets_of
from things import ALL, BOOKS, CHAINS, NO_BOOKS, NO_TABLES, TABLES

MANY_TABLES = [*TABLES, *made_tables()]
NARROW = [book for book in [*BOOKS, *made_books()] if len(book[0]) <= 6]
WIDE = [book for book in [*BOOKS, *CHAINS, *made_books()] if len(book[0]) > 6]


class Seen(unittest.TestCase):
    def test_without_rows_and_with_one_each_column_hangs_on_none(self):
        for head in ["a", "h", "bdf", ALL]:
            told = [("", column) for column in head]
            self.assertEqual(seen((head, ())), told)
            self.assertEqual(seen((head, ((7,) * len(head),))), told)

    def test_of_one_column(self):
        self.assertEqual(seen(("a", ((0,), (1,)))), [])
        self.assertEqual(seen(("h", tuple((number,) for number in range(80)))), [])

    def test_rows_alike_in_all_columns_but_one(self):
        self.assertEqual(seen(("abc", ((0, 0, 0), (0, 0, 1)))), [("", "a"), ("", "b")])
        self.assertEqual(seen(("abc", ((0, 0, 0), (0, 1, 0), (0, 2, 0)))), [("", "a"), ("", "c")])
        for at, column in enumerate(ALL):
            one, other = [0] * 8, [0] * 8
            other[at] = 1
            told = [("", other) for other in ALL if other != column]
            self.assertEqual(seen((ALL, (tuple(one), tuple(other)))), told)

    def test_columns_that_tell_one_another(self):
        told = [("a", "b"), ("b", "a")]
        self.assertEqual(seen(("ab", ((0, 5), (1, 4), (2, 3)))), told)
        self.assertEqual(seen(("ab", ((0, 0), (0, 1), (1, 0)))), [])

    def test_two_columns_tell_a_third(self):
        rows = ((0, 0, 0), (0, 1, 1), (1, 0, 1), (1, 1, 0))
        self.assertEqual(seen(("abc", rows)), [("ab", "c"), ("ac", "b"), ("bc", "a")])

    def test_a_left_that_could_be_less_is_not_told(self):
        self.assertEqual(seen(("abc", ((0, 0, 0), (1, 0, 0), (2, 1, 0)))), [("", "c"), ("a", "b")])

    def test_all_of_one_size_are_told(self):
        # each row has a number of its own in each column: each column tells all others
        told = [(left, right) for left in ALL for right in ALL if left != right]
        self.assertEqual(seen((ALL, tuple((number,) * 8 for number in range(80)))), told)

    def test_each_is_kept_and_not_with_a_column_fewer(self):
        for table in MANY_TABLES:
            for left, right in seen(table):
                self.assertNotIn(right, left)
                self.assertEqual(len(right), 1)
                self.assertIsNone(first_broken(table, (left, right)))
                for column in left:
                    self.assertIsNotNone(first_broken(table, (left.replace(column, ""), right)))

    def test_none_is_left_out(self):
        lefts = []
        for table in MANY_TABLES:
            told = seen(table)
            self.assertIs(type(told), list)
            self.assertEqual(told, least_of(table[0], lambda hanging: is_kept(table, hanging)), table)
            lefts += [len(left) for left, right in told]
        self.assertGreaterEqual(set(lefts), {0, 1, 2, 3, 4})

    def test_no_table(self):
        for thing in NO_TABLES:
            with self.subTest(thing=thing):
                self.assertRaises(NoTable, seen, thing)


def plain_full(book):
    """The full table of a book, row by row as the document tells it."""
    head = book[0]
    rows = [(0,) * len(head)]
    for some in agreeing(book):
        if some != head:
            number = len(rows)
            rows.append(tuple(0 if column in some else number for column in head))
    return head, tuple(sorted(rows))


class FullTable(unittest.TestCase):
    def test_some(self):
        self.assertEqual(full_table(("a", ())), ("a", ((0,), (1,))))
        self.assertEqual(full_table(("a", (("", "a"),))), ("a", ((0,),)))
        self.assertEqual(full_table(("ab", ())), ("ab", ((0, 0), (0, 2), (1, 1), (3, 0))))
        self.assertEqual(full_table(("ab", (("a", "b"),))), ("ab", ((0, 0), (1, 1), (2, 0))))
        # the shut sets are "", "abc", "bc", "c"; the head has no row of its own and no number
        book = ("abc", (("a", "b"), ("b", "c")))
        self.assertEqual(full_table(book), ("abc", ((0, 0, 0), (1, 1, 1), (2, 0, 0), (3, 3, 0))))

    def test_the_greatest_has_sixty_four_rows(self):
        for head in ["abcdef", "bcdfgh", "cdefgh"]:
            told = full_table((head, ()))
            self.assertEqual(len(told[1]), 64)
            self.assertEqual(max(max(row) for row in told[1]), 63)

    def test_all_columns_hang_on_none(self):
        for size in range(1, 7):
            head = ALL[:size]
            self.assertEqual(full_table((head, (("", head),))), (head, ((0,) * size,)))

    def test_the_rows_are_those_that_the_document_tells(self):
        self.assertEqual({len(book[0]) for book in NARROW}, {1, 2, 3, 4, 5, 6})
        for book in NARROW:
            self.assertEqual(full_table(book), plain_full(book), book)

    def test_it_is_a_table_that_keeps_just_what_follows(self):
        for book in NARROW:
            told = full_table(book)
            self.assertIs(type(told), tuple)
            self.assertIs(is_table(told), True)
            self.assertIs(keeps(told, book), True)
            sets = sets_of(book[0])
            if len(sets) <= 8:
                hangings = hangings_of(book[0])
            else:
                hangings = itertools.product(sets[::3], [*book[0], *sets[::13]])
            for hanging in hangings:
                self.assertIs(first_broken(told, hanging) is None, does_follow(book, hanging), (book, hanging))

    def test_too_wide(self):
        self.assertEqual({len(book[0]) for book in WIDE}, {7, 8})
        for book in WIDE:
            with self.subTest(book=book), self.assertRaises(TooWide) as caught:
                full_table(book)
            self.assertEqual((caught.exception.many, caught.exception.most), (len(book[0]), 6))

    def test_six_columns_are_not_too_wide(self):
        for seed in range(5):
            self.assertEqual(full_table(made_book(6, 5, seed))[0], made_book(6, 5, seed)[0])

    def test_no_book(self):
        for thing in NO_BOOKS:
            with self.subTest(thing=thing):
                self.assertRaises(NoBook, full_table, thing)

    def test_no_book_ahead_of_too_wide(self):
        for thing in [(ALL, []), (ALL, (("a",),)), ("abcdefg", (("b", "a"), ("a", "b"))), ("abcdefg",), [ALL, ()]]:
            self.assertRaises(NoBook, full_table, thing)


if __name__ == "__main__":
    unittest.main()
