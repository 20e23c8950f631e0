"""Promises 20 and 21: what follows from a book, covers, shut sets."""

import itertools
import unittest

from keytables.covers import cover, follows, shut_sets
from keytables.errors import NoBook, NoHanging, NoSet
from plainly import agreeing, covers, does_follow, hangings_of, made_books, sets_of
from things import (ALL, BOOKS, CHAINS, FALLING_CHAIN, GROWING_CHAIN, NO_BOOKS, NO_HANGINGS, NO_HANGINGS_OF_BDF,
                    NO_SETS, NO_SETS_OF_BDF, RING, RISING_CHAIN, SHRINKING_CHAIN)

MANY = [*BOOKS, *CHAINS, *made_books()]
OF_BDF = ("bdf", (("b", "d"), ("bd", "f")))


class Follows(unittest.TestCase):
    def test_without_hangings_just_what_lies_in_the_left_follows(self):
        for head in ["a", "bdf", ALL]:
            for left, right in itertools.product(sets_of(head)[:40], repeat=2):
                self.assertIs(follows((head, ()), (left, right)), set(right) <= set(left))

    def test_with_one_hanging(self):
        book = ("abc", (("a", "b"),))
        for hanging in [("a", "b"), ("a", "ab"), ("a", ""), ("ac", "abc"), ("", ""), ("c", "c")]:
            with self.subTest(hanging=hanging):
                self.assertIs(follows(book, hanging), True)
        for hanging in [("b", "a"), ("", "b"), ("a", "c"), ("a", "bc"), ("c", "b"), ("bc", "a")]:
            with self.subTest(hanging=hanging):
                self.assertIs(follows(book, hanging), False)

    def test_a_left_without_columns(self):
        book = ("abc", (("", "b"), ("b", "a")))
        for hanging in [("", "ab"), ("c", "abc"), ("", "")]:
            with self.subTest(hanging=hanging):
                self.assertIs(follows(book, hanging), True)
        for hanging in [("", "c"), ("ab", "c"), ("a", "abc")]:
            with self.subTest(hanging=hanging):
                self.assertIs(follows(book, hanging), False)

    def test_chains_either_way_about(self):
        self.assertIs(follows(RISING_CHAIN, ("a", ALL)), True)
        self.assertIs(follows(RISING_CHAIN, ("b", "a")), False)
        self.assertIs(follows(FALLING_CHAIN, ("h", ALL)), True)
        self.assertIs(follows(FALLING_CHAIN, ("g", "h")), False)
        self.assertIs(follows(GROWING_CHAIN, ("", ALL)), True)
        self.assertIs(follows(SHRINKING_CHAIN, ("", ALL)), True)
        self.assertIs(follows(RING, ("d", "c")), True)
        self.assertIs(follows(RING, ("", "c")), False)

    def test_each_hanging_of_small_books(self):
        for book in MANY:
            if len(book[0]) > 4:
                continue
            for hanging in hangings_of(book[0]):
                self.assertIs(follows(book, hanging), does_follow(book, hanging), (book, hanging))

    def test_hangings_of_great_books(self):
        for book in MANY:
            if len(book[0]) < 5:
                continue
            sets = sets_of(book[0])
            for left, right in itertools.product(sets[::7], [*book[0], *sets[1::29]]):
                self.assertIs(follows(book, (left, right)), does_follow(book, (left, right)), (book, left, right))

    def test_the_hangings_of_a_book_follow_from_it(self):
        for book in MANY:
            for hanging in book[1]:
                self.assertIs(follows(book, hanging), True, book)


class Cover(unittest.TestCase):
    def test_of_no_column_of_some_and_of_the_head(self):
        book = ("abcd", (("", "a"), ("ab", "c")))
        told = [("", "a"), ("a", "a"), ("b", "abc"), ("c", "ac"), ("d", "ad"), ("bd", "abcd"), ("abcd", "abcd")]
        for some, covered in told:
            with self.subTest(some=some):
                self.assertEqual(cover(book, some), covered)

    def test_without_hangings(self):
        for head in ["a", "h", ALL]:
            for some in sets_of(head):
                self.assertEqual(cover((head, ()), some), some)

    def test_chains_either_way_about(self):
        for k, column in enumerate(ALL):
            self.assertEqual(cover(RISING_CHAIN, column), ALL[k:])
            self.assertEqual(cover(FALLING_CHAIN, column), ALL[:k + 1])
            self.assertEqual(cover(RING, column), ALL)
        for book in [RISING_CHAIN, FALLING_CHAIN, RING]:
            self.assertEqual(cover(book, ""), "")
        for book in [GROWING_CHAIN, SHRINKING_CHAIN]:
            self.assertEqual(cover(book, ""), ALL)

    def test_each_set_of_many_books(self):
        for book in MANY:
            told = covers(book)
            for some in sets_of(book[0]):
                self.assertEqual(cover(book, some), told[some], (book, some))

    def test_a_covers_cover_is_itself(self):
        for book in MANY:
            for some in sets_of(book[0]):
                covered = cover(book, some)
                self.assertEqual(cover(book, covered), covered, (book, some))

    def test_it_is_a_text(self):
        for book in MANY:
            self.assertIs(type(cover(book, "")), str)
            self.assertIs(type(cover(book, book[0])), str)
            self.assertEqual(cover(book, book[0]), book[0])


class ShutSets(unittest.TestCase):
    def test_some_books(self):
        self.assertEqual(shut_sets(("a", ())), ["", "a"])
        self.assertEqual(shut_sets(("a", (("", "a"),))), ["a"])
        self.assertEqual(shut_sets(("abc", (("a", "b"),))), ["", "ab", "abc", "b", "bc", "c"])
        self.assertEqual(shut_sets(RISING_CHAIN), ["", *(ALL[k:] for k in range(8))])
        self.assertEqual(shut_sets(RING), ["", ALL])
        self.assertEqual(shut_sets((ALL, (("", ALL),))), [ALL])

    def test_without_hangings_all_sets_are_shut(self):
        for head in ["c", "bdf", ALL]:
            self.assertEqual(shut_sets((head, ())), sets_of(head))

    def test_against_all_sets(self):
        for book in MANY:
            told = shut_sets(book)
            self.assertIs(type(told), list)
            self.assertEqual(told, agreeing(book), book)
            self.assertEqual(told, [some for some in sets_of(book[0]) if cover(book, some) == some], book)

    def test_a_list_that_was_changed_does_not_change_the_next_one(self):
        book = ("abc", (("a", "b"),))
        told = shut_sets(book)
        told.reverse()
        told.append("x")
        self.assertEqual(shut_sets(book), ["", "ab", "abc", "b", "bc", "c"])


class Refused(unittest.TestCase):
    def test_no_set(self):
        for thing in NO_SETS_OF_BDF:
            with self.subTest(thing=thing):
                self.assertRaises(NoSet, cover, OF_BDF, thing)
        for book, thing in itertools.product(MANY, NO_SETS):
            self.assertRaises(NoSet, cover, book, thing)

    def test_no_hanging(self):
        for thing in NO_HANGINGS_OF_BDF:
            with self.subTest(thing=thing):
                self.assertRaises(NoHanging, follows, OF_BDF, thing)
        for book, thing in itertools.product(BOOKS, NO_HANGINGS):
            self.assertRaises(NoHanging, follows, book, thing)

    def test_no_book_ahead_of_all(self):
        beside = ["", "a", ("a", "a"), ("", ""), None, "ba", ("a",), ["a", "b"], 7, ("i", "a"), {}]
        for thing in NO_BOOKS:
            with self.subTest(thing=thing):
                self.assertRaises(NoBook, shut_sets, thing)
                for other in beside:
                    self.assertRaises(NoBook, cover, thing, other)
                    self.assertRaises(NoBook, follows, thing, other)


if __name__ == "__main__":
    unittest.main()
