"""Promise 61: the stem book."""

import itertools
import unittest

from keytables.books import is_book
from keytables.covers import cover
from keytables.errors import NoBook
from keytables.least import slimmed
from keytables.likes import alike
from keytables.stems import stem_book
from plainly import covers, hangings_of, made_book, made_books, sets_of, stems_by
from things import ALL, BOOKS, CHAINS, FALLING_CHAIN, GROWING_CHAIN, NO_BOOKS, PAIRS, RING, RISING_CHAIN

MANY = [*BOOKS, *CHAINS, *made_books(), *[made_book(4, 4, seed) for seed in range(40)]]


def with_rights_grown(book):
    """The book with the cover of its left as each right; two hangings with one left become one."""
    head, hangings = book
    return head, tuple(sorted({(left, cover(book, left)) for left, right in hangings}))


class StemBook(unittest.TestCase):
    def test_without_hangings(self):
        for head in ["a", "h", "bdf", ALL]:
            self.assertEqual(stem_book((head, ())), (head, ()))

    def test_of_one_column(self):
        for left, right in hangings_of("a"):
            told = (("", "a"),) if (left, right) == ("", "a") else ()
            self.assertEqual(stem_book(("a", ((left, right),))), ("a", told))

    def test_a_right_that_lies_in_the_left_is_no_stem(self):
        self.assertEqual(stem_book(("ab", (("a", ""), ("a", "a"), ("ab", "b")))), ("ab", ()))
        self.assertEqual(stem_book((ALL, (("", ""), (ALL, ""), (ALL, ALL)))), (ALL, ()))
        self.assertEqual(stem_book(("abc", (("a", "ab"), ("ab", "a")))), ("abc", (("a", "ab"),)))

    def test_rights_are_covers(self):
        told = (("a", "abc"), ("b", "bc"))
        self.assertEqual(stem_book(("abc", (("a", "b"), ("b", "c")))), ("abc", told))

    def test_a_set_that_has_a_stem_and_not_its_cover_is_none(self):
        # ac is not shut, but has a and not ab; abc has it
        self.assertEqual(stem_book(("abcd", (("a", "b"), ("ac", "d")))), ("abcd", (("a", "ab"), ("abc", "abcd"))))
        self.assertEqual(stem_book(("abc", (("", "a"), ("b", "c")))), ("abc", (("", "a"), ("ab", "abc"))))

    def test_a_left_without_columns(self):
        self.assertEqual(stem_book((ALL, (("", ALL),))), (ALL, (("", ALL),)))
        self.assertEqual(stem_book(GROWING_CHAIN), (ALL, (("", ALL),)))

    def test_rings_and_chains(self):
        self.assertEqual(stem_book(RING), (ALL, tuple((column, ALL) for column in ALL)))
        self.assertEqual(stem_book(("abc", (("a", "b"), ("b", "c"), ("c", "a")))),
                         ("abc", (("a", "abc"), ("b", "abc"), ("c", "abc"))))
        self.assertEqual(stem_book(RISING_CHAIN), (ALL, tuple((ALL[k], ALL[k:]) for k in range(7))))
        self.assertEqual(stem_book(FALLING_CHAIN), (ALL, tuple((ALL[k], ALL[:k + 1]) for k in range(1, 8))))
        self.assertEqual(stem_book(PAIRS), (ALL, tuple((ALL[k], ALL[k // 2 * 2:k // 2 * 2 + 2]) for k in range(8))))

    def test_against_all_sets(self):
        sizes = set()
        for book in MANY:
            told = stem_book(book)
            self.assertEqual(told, (book[0], tuple(stems_by(covers(book)))), book)
            sizes |= {len(left) for left, right in told[1]}
        self.assertGreaterEqual(sizes, {0, 1, 2, 3, 4})

    def test_each_stem_by_the_documents_own_words(self):
        for book in MANY:
            stems = dict(stem_book(book)[1])
            for some in sets_of(book[0]):
                shut = covers(book)[some] == some
                has = all(set(stems[stem]) <= set(some) for stem in stems if stem != some and set(stem) <= set(some))
                self.assertIs(some in stems, not shut and has)

    def test_it_is_a_book_and_alike(self):
        for book in MANY:
            told = stem_book(book)
            self.assertIs(is_book(told), True)
            self.assertIs(alike(told, book), True)
            self.assertLessEqual(len(told[1]), len(book[1]))

    def test_no_book_that_is_alike_has_fewer(self):
        for seed in range(30):
            book = made_book(3, 4, seed)
            least = len(stem_book(book)[1])
            for many in range(min(least, 3)):
                for hangings in itertools.combinations(hangings_of(book[0]), many):
                    self.assertFalse(alike((book[0], hangings), book))

    def test_it_is_the_same_of_books_that_are_alike(self):
        for book in MANY:
            told = stem_book(book)
            self.assertEqual(stem_book(slimmed(book)), told)
            self.assertEqual(stem_book(with_rights_grown(book)), told)
            self.assertEqual(stem_book(told), told)

    def test_it_is_not_the_same_of_others(self):
        books = [made_book(3, many, seed) for many in range(1, 5) for seed in range(8)]
        for book, other in itertools.combinations(books, 2):
            self.assertIs(stem_book(book) == stem_book(other), alike(book, other))


class Refused(unittest.TestCase):
    def test_no_book(self):
        for thing in NO_BOOKS:
            with self.subTest(thing=thing):
                self.assertRaises(NoBook, stem_book, thing)


if __name__ == "__main__":
    unittest.main()
