"""Promise 50: wide sets and keys."""

import itertools
import unittest

from keytables.errors import NoBook, NoSet
from keytables.keys import is_key, is_wide, key_columns, keys, least_key, many_wide
from plainly import covers, lesser, made_book, made_books, sets_of
from things import (ALL, BOOKS, CHAINS, FALLING_CHAIN, GROWING_CHAIN, NO_BOOKS, NO_SETS, NO_SETS_OF_BDF, PAIRS, RING,
                    RISING_CHAIN)

MANY = [*BOOKS, *CHAINS, *made_books(), *(made_book(6, 7, seed) for seed in range(20))]
# Of each book the keys, the columns of them, how many sets are wide, and the first of the least keys.
TOLD = [
    (("a", ()), ["a"], "a", 1, "a"),
    (("a", (("", "a"),)), [""], "", 2, ""),
    (("bdf", ()), ["bdf"], "bdf", 1, "bdf"),
    (("ab", (("a", "b"), ("b", "a"))), ["a", "b"], "ab", 3, "a"),
    (("abc", (("a", "b"),)), ["ac"], "ac", 2, "ac"),
    (("abc", (("ab", "c"), ("c", "a"))), ["ab", "bc"], "abc", 3, "ab"),
    # the first key has two columns, and a later one has one
    (("abc", (("ab", "c"), ("c", "ab"))), ["ab", "c"], "abc", 5, "c"),
    # two keys with the fewest columns, behind one with more
    (("abcd", (("abc", "d"), ("bd", "ac"), ("cd", "ab"))), ["abc", "bd", "cd"], "abcd", 7, "bd"),
    ((ALL, ()), [ALL], ALL, 1, ALL),
    ((ALL, (("", ALL),)), [""], "", 256, ""),
    (RISING_CHAIN, ["a"], "a", 128, "a"),
    (FALLING_CHAIN, ["h"], "h", 128, "h"),
    (GROWING_CHAIN, [""], "", 256, ""),
    (RING, list(ALL), ALL, 255, "a"),
    (PAIRS, ["".join(key) for key in itertools.product("ab", "cd", "ef", "gh")], ALL, 81, "aceg"),
]


def plain_keys(book):
    wide = [some for some in sets_of(book[0]) if covers(book)[some] == book[0]]
    return [some for some in wide if not any(one in wide for one in lesser(some))]


class Keys(unittest.TestCase):
    def test_some(self):
        for book, told, columns, many, least in TOLD:
            with self.subTest(book=book):
                self.assertEqual(keys(book), told)
                self.assertEqual(key_columns(book), columns)
                self.assertEqual(many_wide(book), many)
                self.assertEqual(least_key(book), least)

    def test_without_hangings_the_head_is_the_one_key(self):
        for head in sets_of(ALL)[1:]:
            self.assertEqual(keys((head, ())), [head])

    def test_of_many_books_against_all_sets(self):
        sizes = set()
        for book in MANY:
            told = plain_keys(book)
            sizes.add(len(told))
            self.assertEqual(keys(book), told, book)
            self.assertEqual(key_columns(book), "".join(sorted(set("".join(told)))), book)
            self.assertEqual(many_wide(book), list(covers(book).values()).count(book[0]), book)
            self.assertEqual(least_key(book), min(told, key=lambda key: (len(key), key)), book)
        self.assertGreaterEqual(sizes, {1, 2, 3, 4})

    def test_their_kinds(self):
        for book in MANY:
            self.assertIs(type(keys(book)), list)
            self.assertIs(type(key_columns(book)), str)
            self.assertIs(type(many_wide(book)), int)
            self.assertIs(type(least_key(book)), str)

    def test_a_list_that_was_changed_does_not_change_the_next_one(self):
        told = keys(PAIRS)
        told.pop()
        told.sort(reverse=True)
        self.assertEqual(keys(PAIRS), TOLD[-1][1])
        self.assertEqual(key_columns(PAIRS), ALL)
        self.assertEqual(least_key(PAIRS), "aceg")


class IsWideIsKey(unittest.TestCase):
    def test_each_set_of_many_books(self):
        for book in MANY:
            told = plain_keys(book)
            for some in sets_of(book[0]):
                self.assertIs(is_wide(book, some), covers(book)[some] == book[0], (book, some))
                self.assertIs(is_key(book, some), some in told, (book, some))

    def test_keys_and_one_column_more_and_one_fewer(self):
        for book in MANY:
            for key in keys(book):
                self.assertIs(is_wide(book, key), True)
                self.assertIs(is_key(book, key), True)
                for column in book[0]:
                    if column in key:
                        fewer = key.replace(column, "")
                        self.assertIs(is_wide(book, fewer), False)
                        self.assertIs(is_key(book, fewer), False)
                    else:
                        more = "".join(sorted(key + column))
                        self.assertIs(is_wide(book, more), True)
                        self.assertIs(is_key(book, more), False)

    def test_a_wide_set_whose_only_key_is_much_less(self):
        self.assertIs(is_key((ALL, (("", ALL),)), ALL), False)
        self.assertIs(is_key((ALL, (("", ALL),)), "a"), False)
        self.assertIs(is_key((ALL, (("", ALL),)), ""), True)
        self.assertIs(is_key(RISING_CHAIN, "abc"), False)


class Refused(unittest.TestCase):
    def test_no_set(self):
        book = ("bdf", (("b", "d"), ("d", "f")))
        for thing in NO_SETS_OF_BDF:
            with self.subTest(thing=thing):
                self.assertRaises(NoSet, is_wide, book, thing)
                self.assertRaises(NoSet, is_key, book, thing)
        for other, thing in itertools.product(BOOKS, NO_SETS):
            self.assertRaises(NoSet, is_wide, other, thing)
            self.assertRaises(NoSet, is_key, other, thing)

    def test_no_book_ahead_of_it(self):
        for thing in NO_BOOKS:
            with self.subTest(thing=thing):
                for question in [keys, key_columns, many_wide, least_key]:
                    self.assertRaises(NoBook, question, thing)
                for question, other in itertools.product([is_wide, is_key], ["", "a", "ba", None, 7, [], ("a",)]):
                    self.assertRaises(NoBook, question, thing, other)


if __name__ == "__main__":
    unittest.main()
