"""Promise 22: whether two books are alike, and the first hanging in which they are not."""

import itertools
import unittest

from keytables.covers import follows
from keytables.errors import NoBook, Unlike
from keytables.likes import alike, first_unlike
from plainly import covers, made_book, sets_of
from things import ALL, BOOKS, CHAINS, NO_BOOKS, RING, RISING_CHAIN

# Each pair is alike by unlike hangings.
ALIKE = [
    (("a", ()), ("a", (("", ""), ("a", "a")))),
    (("abc", (("a", "bc"),)), ("abc", (("a", "b"), ("a", "c")))),
    (("abc", (("a", "b"), ("b", "c"))), ("abc", (("a", "bc"), ("b", "c")))),
    (("abc", (("a", "b"), ("b", "c"))), ("abc", (("a", "b"), ("a", "c"), ("ab", "c"), ("b", "c")))),
    (("abc", (("", "a"), ("ab", "c"))), ("abc", (("", "a"), ("b", "c")))),
    (("ab", (("", "ab"),)), ("ab", (("", "a"), ("a", "b")))),
    ((ALL, RING[1]), (ALL, tuple(sorted((ALL[k], ALL[k - 1]) for k in range(8))))),
]

# Of each pair the hanging that follows from just one of the two.
UNLIKE = [
    (("a", ()), ("a", (("", "a"),)), ("", "a")),
    (("ab", (("a", "b"),)), ("ab", (("b", "a"),)), ("a", "b")),
    (("ab", (("b", "a"),)), ("ab", ()), ("b", "a")),
    (("abc", (("a", "bc"),)), ("abc", (("a", "b"),)), ("a", "c")),
    (("abc", (("ab", "c"),)), ("abc", (("b", "c"),)), ("b", "c")),
    (("abc", (("", "c"),)), ("abc", (("", "b"),)), ("", "b")),
    # "ab" is less than "b": lefts compare as texts, not by how many columns they have
    (("abcd", (("abd", "c"), ("b", "d"))), ("abcd", ()), ("ab", "c")),
    (("abcd", (("abd", "c"),)), ("abcd", (("b", "a"),)), ("abd", "c")),
    ((ALL, RING[1]), RISING_CHAIN, ("b", "a")),
    ((ALL, (("abcdefg", "h"),)), (ALL, ()), ("abcdefg", "h")),
]


def many_pairs():
    """Pairs of books with one head, most of them unlike, some alike."""
    for columns, seed in itertools.product([1, 2, 3, 4, 6], range(6)):
        head, hangings = made_book(columns, 4, seed)
        for number in range(len(hangings) + 1):
            yield (head, hangings), (head, hangings[:number])
            yield (head, hangings), (head, hangings[number:])
    for columns, seed in itertools.product([1, 2, 3], range(40)):
        head = ALL[:columns]
        books = [made_book(columns, 3, number)[1] for number in (seed, seed + 40)]
        one, other = [tuple(hanging for hanging in book if set("".join(hanging)) <= set(head)) for book in books]
        yield (head, one), (head, other)


def plain_first(book, other):
    """The least hanging that just one of two books has, by all covers."""
    told = [(left, right) for left, right in itertools.product(sets_of(book[0]), book[0]) if right not in left]
    apart = [one for one in told if (one[1] in covers(book)[one[0]]) != (one[1] in covers(other)[one[0]])]
    return min(apart, default=None)


class Alike(unittest.TestCase):
    def test_a_book_is_alike_with_itself(self):
        for book in [*BOOKS, *CHAINS]:
            self.assertIs(alike(book, book), True)
            self.assertIsNone(first_unlike(book, book))

    def test_by_unlike_hangings(self):
        for one, other in ALIKE:
            with self.subTest(one=one, other=other):
                self.assertIs(alike(one, other), True)
                self.assertIs(alike(other, one), True)
                self.assertIsNone(first_unlike(one, other))
                self.assertIsNone(first_unlike(other, one))

    def test_unlike(self):
        for one, other, hanging in UNLIKE:
            with self.subTest(one=one, other=other):
                self.assertIs(alike(one, other), False)
                self.assertIs(alike(other, one), False)
                self.assertEqual(first_unlike(one, other), hanging)
                self.assertEqual(first_unlike(other, one), hanging)

    def test_two_heads_are_never_alike(self):
        for one, other in itertools.permutations(["a", "b", "ab", "abc", ALL], 2):
            with self.subTest(one=one, other=other):
                self.assertIs(alike((one, ()), (other, ())), False)
                self.assertRaises(Unlike, first_unlike, (one, ()), (other, ()))

    def test_two_heads_with_the_same_hangings(self):
        one, other = ("abc", (("a", "b"),)), ("ab", (("a", "b"),))
        self.assertIs(alike(one, other), False)
        self.assertIs(alike(other, one), False)
        self.assertRaises(Unlike, first_unlike, one, other)
        self.assertRaises(Unlike, first_unlike, other, one)

    def test_many_pairs_against_all_covers(self):
        told = []
        for one, other in many_pairs():
            first = plain_first(one, other)
            self.assertEqual(first_unlike(one, other), first, (one, other))
            self.assertEqual(first_unlike(other, one), first, (one, other))
            self.assertIs(alike(one, other), first is None, (one, other))
            self.assertIs(alike(other, one), first is None, (one, other))
            told.append(first)
        self.assertIn(None, told)
        self.assertGreater(len(set(told)), 10)

    def test_the_first_follows_from_just_one(self):
        for one, other in many_pairs():
            first = first_unlike(one, other)
            if first is not None:
                self.assertIs(type(first), tuple)
                self.assertNotEqual(follows(one, first), follows(other, first))


class Refused(unittest.TestCase):
    def test_no_book_of_the_first(self):
        for thing, book in itertools.product(NO_BOOKS, BOOKS):
            self.assertRaises(NoBook, alike, thing, book)
            self.assertRaises(NoBook, first_unlike, thing, book)

    def test_no_book_of_the_second(self):
        for thing, book in itertools.product(NO_BOOKS, BOOKS):
            self.assertRaises(NoBook, alike, book, thing)
            self.assertRaises(NoBook, first_unlike, book, thing)

    def test_no_book_of_both(self):
        for thing in NO_BOOKS:
            self.assertRaises(NoBook, alike, thing, thing)
            self.assertRaises(NoBook, first_unlike, thing, None)

    def test_no_book_comes_ahead_of_unlike(self):
        good, bad = ("abc", (("a", "b"),)), ("ab", (("b", "a"), ("a", "b")))
        for question in [alike, first_unlike]:
            self.assertRaises(NoBook, question, good, bad)
            self.assertRaises(NoBook, question, bad, good)


if __name__ == "__main__":
    unittest.main()
