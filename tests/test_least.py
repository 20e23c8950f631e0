"""Promises 60 and 62: idle hangings, slimmed books, and the least hangings that follow."""

import unittest

from keytables.books import is_book
from keytables.covers import follows
from keytables.errors import NoBook
from keytables.least import direct, idle, slimmed
from keytables.likes import alike
from plainly import covers, does_follow, least_of, made_book, made_books
from things import ALL, BOOKS, CHAINS, NO_BOOKS, PAIRS, RING, RISING_CHAIN

MANY = [*BOOKS, *CHAINS, *made_books(), *(made_book(4, 10, seed) for seed in range(30))]
# Of each book the idle numbers and the numbers of the hangings that are there when it is slimmed.
TOLD = [
    (("a", ()), [], []),
    (("a", (("", "a"),)), [], [0]),
    (("abc", (("a", "b"), ("b", "c"))), [], [0, 1]),
    (("abc", (("a", "b"), ("a", "c"), ("b", "c"))), [1], [0, 2]),
    # their right lies in their left, or has no columns
    (("ab", (("", ""), ("a", ""), ("a", "a"), ("ab", "a"), ("ab", "ab"))), [0, 1, 2, 3, 4], []),
    (("ab", (("a", ""), ("a", "b"), ("b", "b"))), [0, 2], [1]),
    # either of the first two can go, not both; the one with the greater number is looked at first
    (("abc", (("a", "b"), ("a", "c"), ("b", "c"), ("c", "b"))), [0, 1], [0, 2, 3]),
    # two of them are told by the first alone
    (("ab", (("", "ab"), ("a", "b"), ("b", "a"))), [1, 2], [0]),
    (("abc", (("a", "b"), ("ac", "b"))), [1], [0]),
    (("abc", (("", "a"), ("a", "b"), ("ac", "b"), ("c", "b"))), [2, 3], [0, 1]),
    # rings: in the first and the last each is wanted, in the other each by itself is idle
    (("abc", (("a", "bc"), ("b", "ac"), ("c", "ab"))), [], [0, 1, 2]),
    (("abc", (("a", "b"), ("a", "c"), ("b", "a"), ("b", "c"), ("c", "a"), ("c", "b"))), [*range(6)], [0, 1, 2, 4]),
    (RING, [], [*range(8)]),
]


def without(book, k):
    return book[0], book[1][:k] + book[1][k + 1:]


def plain_slimmed(book):
    still = list(book[1])
    for hanging in reversed(book[1]):
        others = tuple(other for other in still if other != hanging)
        if does_follow((book[0], others), hanging):
            still.remove(hanging)
    return book[0], tuple(still)


class Idle(unittest.TestCase):
    def test_some(self):
        for book, numbers, still in TOLD:
            with self.subTest(book=book):
                self.assertEqual(idle(book), numbers)

    def test_each_by_itself(self):
        sizes = set()
        for book in MANY:
            told = [k for k in range(len(book[1])) if does_follow(without(book, k), book[1][k])]
            sizes.add(len(told))
            self.assertEqual(idle(book), told, book)
        self.assertGreaterEqual(sizes, {0, 1, 2, 3, 4})

    def test_a_list_of_whole_numbers(self):
        for book in MANY:
            self.assertIs(type(idle(book)), list)
            self.assertLessEqual({type(number) for number in idle(book)}, {int})

    def test_a_list_that_was_changed_does_not_change_the_next_one(self):
        book = TOLD[4][0]
        idle(book).clear()
        self.assertEqual(idle(book), [0, 1, 2, 3, 4])


class Slimmed(unittest.TestCase):
    def test_some(self):
        for book, numbers, still in TOLD:
            with self.subTest(book=book):
                self.assertEqual(slimmed(book), (book[0], tuple(book[1][k] for k in still)))

    def test_of_many_books_hanging_by_hanging(self):
        for book in MANY:
            self.assertEqual(slimmed(book), plain_slimmed(book), book)

    def test_it_is_a_book_alike_with_the_book(self):
        for book in MANY:
            told = slimmed(book)
            self.assertIs(type(told), tuple)
            self.assertIs(is_book(told), True)
            self.assertEqual(covers(told), covers(book))
            self.assertIs(alike(told, book), True)

    def test_it_has_none_idle_and_is_itself_when_slimmed_again(self):
        for book in MANY:
            told = slimmed(book)
            self.assertEqual(idle(told), [])
            self.assertEqual(slimmed(told), told)

    def test_the_order_decides_which_goes(self):
        book = ("abc", (("a", "b"), ("a", "c"), ("b", "c"), ("c", "b")))
        # from the first number to the last ("a", "b") would go, and ("a", "c") stay
        self.assertEqual(slimmed(book), ("abc", (("a", "b"), ("b", "c"), ("c", "b"))))
        self.assertIs(alike(without(book, 0), book), True)


class Direct(unittest.TestCase):
    def test_without_hangings_there_are_none(self):
        for head in ["a", "bdf", ALL]:
            self.assertEqual(direct((head, ())), [])

    def test_some(self):
        self.assertEqual(direct(("a", (("", "a"),))), [("", "a")])
        self.assertEqual(direct(("ab", (("a", "ab"), ("b", "")))), [("a", "b")])
        self.assertEqual(direct(("abc", (("a", "bc"),))), [("a", "b"), ("a", "c")])
        self.assertEqual(direct(("abc", (("a", "b"), ("b", "c")))), [("a", "b"), ("a", "c"), ("b", "c")])
        self.assertEqual(direct(RISING_CHAIN), [(x, y) for x in ALL for y in ALL if x < y])
        self.assertEqual(direct(RING), [(x, y) for x in ALL for y in ALL if x != y])
        self.assertEqual(direct((ALL, (("", ALL),))), [("", column) for column in ALL])
        self.assertEqual(direct(PAIRS), [("abcdefgh"[k], "badcfehg"[k]) for k in range(8)])

    def test_a_left_that_can_be_made_less(self):
        self.assertEqual(direct(("abc", (("a", "b"), ("ab", "c")))), [("a", "b"), ("a", "c")])
        self.assertEqual(direct(("abc", (("", "a"), ("ab", "c")))), [("", "a"), ("b", "c")])
        self.assertEqual(direct(("abc", (("ab", "c"), ("b", "c")))), [("b", "c")])

    def test_hangings_that_no_one_told(self):
        book = ("abcd", (("ab", "c"), ("cd", "a")))
        self.assertEqual(direct(book), [("ab", "c"), ("cd", "a")])
        book = ("abcd", (("ab", "c"), ("c", "d"), ("d", "a")))
        self.assertEqual(direct(book), [("ab", "c"), ("ab", "d"), ("bd", "c"), ("c", "a"), ("c", "d"), ("d", "a")])

    def test_each_follows_and_not_with_a_column_fewer(self):
        for book in MANY:
            for left, right in direct(book):
                self.assertNotIn(right, left)
                self.assertEqual(len(right), 1)
                self.assertIs(follows(book, (left, right)), True)
                for column in left:
                    self.assertIs(follows(book, (left.replace(column, ""), right)), False)

    def test_none_is_left_out(self):
        lefts = set()
        for book in MANY:
            told = direct(book)
            self.assertIs(type(told), list)
            self.assertEqual(told, least_of(book[0], lambda hanging: hanging[1] in covers(book)[hanging[0]]), book)
            lefts |= {len(left) for left, right in told}
        self.assertGreaterEqual(lefts, {0, 1, 2, 3, 4})

    def test_a_list_that_was_changed_does_not_change_the_next_one(self):
        told = direct(RISING_CHAIN)
        told.reverse()
        self.assertEqual(direct(RISING_CHAIN), told[::-1])


class Refused(unittest.TestCase):
    def test_no_book(self):
        for thing in NO_BOOKS:
            for question in [idle, slimmed, direct]:
                with self.subTest(question=question.__name__, thing=thing):
                    self.assertRaises(NoBook, question, thing)


if __name__ == "__main__":
    unittest.main()
