"""Promise 70: what follows among some columns."""

import itertools
import unittest

from keytables.errors import NoBook, NoSet
from keytables.narrow import narrowed
from keytables.stems import stem_book
from plainly import covers, made_book, made_books, own_covers, sets_of, stems_by
from things import ALL, BOOKS, CHAINS, NO_BOOKS, NO_SETS, NO_SETS_OF_BDF, RING, RISING_CHAIN

# Any two of a, b, c and d tell h, and with h each of e, f and g tells the next one.
MEETING = (ALL, tuple(sorted([("ab", "h"), ("ac", "h"), ("ad", "h"), ("bc", "h"), ("bd", "h"), ("cd", "h"),
                              ("eh", "f"), ("fh", "g"), ("gh", "e")])))
MANY = [*BOOKS, *CHAINS, MEETING, *made_books(), *[made_book(5, 5, seed) for seed in range(20)]]


def some_sets(head):
    """The sets of a head with a column at least: all of a small one, some of a great one."""
    sets = sets_of(head)[1:]
    return sets if len(sets) < 40 else [*sets[::17], head, head[1:], head[:-1], head[0], head[-1]]


class Narrowed(unittest.TestCase):
    def test_to_one_column(self):
        for book in MANY:
            for column in book[0]:
                told = [("", column)] if column in covers(book)[""] else []
                self.assertEqual(narrowed(book, column), told)

    def test_to_the_whole_head(self):
        for book in MANY:
            self.assertEqual(narrowed(book, book[0]), list(stem_book(book)[1]))

    def test_to_a_few(self):
        book = ("abcd", (("a", "b"), ("b", "c"), ("cd", "a")))
        self.assertEqual(narrowed(book, "ac"), [("a", "ac")])
        self.assertEqual(narrowed(book, "acd"), [("a", "ac"), ("cd", "acd")])
        self.assertEqual(narrowed(book, "bd"), [])
        self.assertEqual(narrowed(book, "abd"), [("a", "ab"), ("bd", "abd")])
        self.assertEqual(narrowed(RISING_CHAIN, "adh"), [("a", "adh"), ("d", "dh")])
        self.assertEqual(narrowed(RING, "bg"), [("b", "bg"), ("g", "bg")])

    def test_what_follows_only_through_a_column_that_is_not_among_them(self):
        book = ("abc", (("a", "b"), ("b", "c")))
        self.assertEqual(narrowed(book, "ac"), [("a", "ac")])
        self.assertEqual(narrowed(("abc", (("", "b"), ("b", "c"))), "ac"), [("", "c")])

    def test_more_than_twelve(self):
        told = narrowed(MEETING, "abcdefg")
        pairs = ["".join(pair) for pair in itertools.combinations("abcd", 2)]
        self.assertEqual(told, sorted((pair + column, pair + "efg") for pair in pairs for column in "efg"))
        self.assertEqual(len(told), 18)

    def test_without_hangings(self):
        for head in ["a", "bdf", ALL]:
            for some in sets_of(head)[1:]:
                self.assertEqual(narrowed((head, ()), some), [])

    def test_against_the_covers_of_all_sets(self):
        for book in MANY:
            for some in some_sets(book[0]):
                told = narrowed(book, some)
                self.assertIs(type(told), list)
                self.assertEqual(told, stems_by(own_covers(book, some)), (book, some))

    def test_a_list_that_was_changed_does_not_change_the_next_one(self):
        told = narrowed(RING, "abc")
        told.append(("a", "a"))
        self.assertEqual(narrowed(RING, "abc"), told[:-1])


class Refused(unittest.TestCase):
    def test_no_book_whatever_stands_beside_it(self):
        for thing in NO_BOOKS:
            for other in ["a", "", "i", None, 7, ["a"], ("a",)]:
                with self.subTest(thing=thing, other=other):
                    self.assertRaises(NoBook, narrowed, thing, other)

    def test_no_set(self):
        for thing in [*NO_SETS_OF_BDF, ""]:
            with self.subTest(thing=thing):
                self.assertRaises(NoSet, narrowed, ("bdf", (("b", "d"),)), thing)
        for book, thing in itertools.product(BOOKS, [*NO_SETS, ""]):
            self.assertRaises(NoSet, narrowed, book, thing)


if __name__ == "__main__":
    unittest.main()
