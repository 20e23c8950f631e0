"""Promises 84 to 86: what a split loses, neat and fair sets, and splits into them."""

import itertools
import unittest

from keytables.errors import NoBook, NoSet, NoSplit
from keytables.fills import is_whole
from keytables.splits import fair_split, first_rough, is_fair, lost, neat_split
from plainly import does_follow, hangings_of, lesser, lies, made_book, made_books, made_splits, own_covers, sets_of
from things import (ALL, BOOKS, CHAINS, GROWING_CHAIN, NO_BOOKS, NO_SETS, NO_SETS_OF_BDF, NO_SPLITS_OF_BDF, PAIRS, RING,
                    RISING_CHAIN, SHRINKING_CHAIN, SIXTY_FIVE, SIXTY_FOUR)

BOOK = ("abcd", (("a", "b"), ("b", "c"), ("c", "d")))
BDF = ("bdf", (("", "b"), ("b", "d"), ("d", "f")))
# Street and town tell the code, the code tells the town: fair, and not neat.
STREETS = ("abc", (("ab", "c"), ("c", "b")))
MANY = [*BOOKS, *CHAINS, STREETS, *made_books(), *[made_book(5, 4, seed) for seed in range(30)]]


def those_in_one_set(book, split):
    """All hangings that follow from the book and lie in one set of the split; of each left only the greatest right."""
    told = set()
    for some in split:
        told |= set(own_covers(book, some).items())
    return tuple(sorted(told))


def rough_ones(book, whole):
    """The sets that have neither themselves nor the whole as their own cover."""
    covers = own_covers(book, whole)
    return [some for some in sets_of(whole) if covers[some] != some and covers[some] != whole]


def is_fair_by_its_words(book, whole):
    covers = own_covers(book, whole)
    wide = {some for some in covers if covers[some] == whole}
    least = [some for some in wide if not any(one in wide for one in lesser(some))]
    return all(any(column in key for key in least)
               for some in covers if some not in wide for column in covers[some] if column not in some)


class Lost(unittest.TestCase):
    def test_nothing(self):
        self.assertEqual(lost(BOOK, ("ab", "bc", "cd")), [])
        self.assertEqual(lost(BOOK, ("abc", "cd")), [])
        self.assertEqual(lost(("ab", ()), ("a", "b")), [])
        self.assertEqual(lost(("abc", (("a", ""), ("ab", "b"), ("abc", "a"))), ("a", "b", "c")), [])

    def test_one(self):
        self.assertEqual(lost(BOOK, ("ab", "bc", "bd")), [2])
        self.assertEqual(lost(BOOK, ("ab", "ac", "cd")), [1])
        self.assertEqual(lost(BOOK, ("ad", "bc", "cd")), [0])
        self.assertEqual(lost(STREETS, ("ac", "bc")), [0])

    def test_all(self):
        self.assertEqual(lost(BOOK, ("a", "b", "c", "d")), [0, 1, 2])
        self.assertEqual(lost(RING, tuple(ALL)), list(range(8)))
        self.assertEqual(lost(RISING_CHAIN, tuple(ALL)), list(range(7)))

    def test_a_split_with_the_whole_head_loses_nothing(self):
        for book in MANY:
            self.assertEqual(lost(book, (book[0],)), [])
            self.assertEqual(lost(book, tuple(sorted({book[0], *book[0]}))), [])

    def test_what_follows_by_several_sets_in_turn(self):
        ring = ("abc", (("a", "b"), ("b", "c"), ("c", "a")))
        # c tells a, but no set has both: by bc it tells b, and by ab that tells a
        self.assertEqual(lost(ring, ("ab", "bc")), [])
        self.assertEqual(lost(RING, tuple(ALL[k:k + 2] for k in range(7))), [])
        self.assertEqual(lost(RING, tuple(reversed(["gh", "fg", "ef", "de", "cd", "bc", "ab"]))), [])

    def test_a_hanging_whose_columns_are_in_several_sets(self):
        book = ("abcd", (("a", "b"), ("a", "bcd")))
        self.assertEqual(lost(book, ("ab", "ac", "ad")), [])
        self.assertEqual(lost(book, ("ab", "acd")), [])
        self.assertEqual(lost(book, ("ab", "cd")), [1])

    def test_a_left_without_columns(self):
        self.assertEqual(lost(("abc", (("", "ab"),)), ("a", "b", "c")), [])
        self.assertEqual(lost(("abc", (("", "a"), ("a", "b"))), ("a", "b", "c")), [])
        self.assertEqual(lost(GROWING_CHAIN, tuple(ALL)), [])

    def test_against_the_hangings_that_lie_in_one_set(self):
        found = []
        for seed, book in enumerate(MANY):
            if len(book[0]) > 5:
                continue
            for split in made_splits(book[0], seed):
                told = lost(book, split)
                self.assertIs(type(told), list)
                there = (book[0], those_in_one_set(book, split))
                wanted = [k for k, hanging in enumerate(book[1]) if not does_follow(there, hanging)]
                self.assertEqual(told, wanted, (book, split))
                found.append(len(told))
        self.assertGreaterEqual(set(found), {0, 1, 2, 3})

    def test_of_eight_columns(self):
        wide = [book for book in MANY if len(book[0]) == 8 and book[1]]
        for seed, book in enumerate(wide):
            for split in [*made_splits(ALL, seed)[1:5], ("abcd", "cdef", "efgh"), ("abc", "bcd", "efg", "fgh")]:
                there = (ALL, those_in_one_set(book, split))
                wanted = [k for k, hanging in enumerate(book[1]) if not does_follow(there, hanging)]
                self.assertEqual(lost(book, split), wanted, (book, split))

    def test_all_hangings_that_follow_of_a_small_head(self):
        for seed in range(8):
            book = made_book(3, 3, seed)
            for split in made_splits(book[0], seed):
                listed = tuple((left, right) for left, right in hangings_of(book[0]) if does_follow(book, (left, right))
                               and any(lies(left, some) and lies(right, some) for some in split))
                wanted = [k for k, hanging in enumerate(book[1]) if not does_follow((book[0], listed), hanging)]
                self.assertEqual(lost(book, split), wanted)

    def test_sixty_four_sets(self):
        for book in CHAINS:
            self.assertEqual(lost(book, SIXTY_FOUR), [k for k, hanging in enumerate(book[1]) if not does_follow(
                (ALL, those_in_one_set(book, [some for some in SIXTY_FOUR if len(some) > 4])), hanging)])


class FirstRough(unittest.TestCase):
    def test_of_one_column(self):
        for book in MANY:
            for column in book[0]:
                self.assertIsNone(first_rough(book, column))

    def test_neat_ones(self):
        self.assertIsNone(first_rough(("abc", ()), "abc"))
        self.assertIsNone(first_rough(BOOK, "ab"))
        self.assertIsNone(first_rough(BOOK, "ad"))
        self.assertIsNone(first_rough(RING, ALL))
        self.assertIsNone(first_rough(("abc", (("", "abc"),)), "abc"))
        self.assertIsNone(first_rough(("abc", (("a", "bc"),)), "abc"))

    def test_some(self):
        self.assertEqual(first_rough(BOOK, "abcd"), "b")
        self.assertEqual(first_rough(BOOK, "abc"), "b")
        self.assertEqual(first_rough(BOOK, "acd"), "c")
        self.assertEqual(first_rough(STREETS, "abc"), "c")
        self.assertEqual(first_rough(("ab", (("", "a"),)), "ab"), "")
        self.assertEqual(first_rough(("abc", (("", "a"), ("b", "c"))), "abc"), "")

    def test_the_least_as_texts_compare(self):
        # b is rough, too, and has fewer columns, but ab is the lesser text
        self.assertEqual(first_rough(("abcde", (("ac", "d"), ("b", "e"))), "abcde"), "ab")
        self.assertEqual(first_rough(("acde", (("ac", "d"), ("c", "e"))), "acde"), "c")
        self.assertEqual(first_rough(("abcde", (("ae", "d"), ("b", "c"))), "abcde"), "ab")

    def test_against_all_sets(self):
        told = []
        for book in MANY:
            sets = sets_of(book[0])[1:]
            for whole in sets if len(sets) < 40 else [book[0], *sets[5::25]]:
                rough = first_rough(book, whole)
                self.assertEqual(rough, min(rough_ones(book, whole), default=None), (book, whole))
                told.append(rough)
        self.assertGreater(told.count(None), 100)
        self.assertGreater(len(set(told)), 20)


class IsFair(unittest.TestCase):
    def test_of_one_column(self):
        for book in MANY:
            for column in book[0]:
                self.assertIs(is_fair(book, column), True)

    def test_fair_and_not_neat(self):
        self.assertEqual(first_rough(STREETS, "abc"), "c")
        self.assertIs(is_fair(STREETS, "abc"), True)

    def test_neither(self):
        self.assertIs(is_fair(BOOK, "abcd"), False)
        self.assertIs(is_fair(BOOK, "abc"), False)
        self.assertIs(is_fair(("ab", (("", "a"),)), "ab"), False)
        self.assertIs(is_fair(("abc", (("a", "b"),)), "abc"), False)

    def test_both(self):
        self.assertIs(is_fair(BOOK, "ab"), True)
        self.assertIs(is_fair(RING, ALL), True)
        self.assertIs(is_fair(("abc", ()), "abc"), True)
        self.assertIs(is_fair(PAIRS, "ab"), True)

    def test_one_column_in_no_key_is_enough(self):
        # with all of PAIRS each column is in some key; with an own column on a no more
        self.assertIs(is_fair(PAIRS, ALL), True)
        self.assertIs(is_fair(("abc", (("a", "b"), ("b", "a"))), "abc"), True)
        self.assertIs(is_fair(("abcd", (("a", "b"), ("a", "d"), ("b", "a"))), "abcd"), False)

    def test_neat_is_fair(self):
        for book in MANY:
            for whole in sets_of(book[0])[1::9]:
                if first_rough(book, whole) is None:
                    self.assertIs(is_fair(book, whole), True)

    def test_against_all_sets(self):
        told = []
        for book in MANY:
            sets = sets_of(book[0])[1:]
            for whole in sets if len(sets) < 40 else [book[0], *sets[5::25]]:
                told.append((is_fair(book, whole), first_rough(book, whole) is None))
                self.assertIs(told[-1][0], is_fair_by_its_words(book, whole), (book, whole))
        for kind in [(True, True), (True, False), (False, False)]:
            self.assertGreater(told.count(kind), 20)


class NeatSplit(unittest.TestCase):
    def test_some(self):
        self.assertEqual(neat_split(("abc", ())), ("abc",))
        self.assertEqual(neat_split(("a", (("", "a"),))), ("a",))
        self.assertEqual(neat_split(("ab", (("", "a"),))), ("a", "b"))
        self.assertEqual(neat_split(("abc", (("a", "b"),))), ("ab", "ac"))
        self.assertEqual(neat_split(STREETS), ("ac", "bc"))
        self.assertEqual(neat_split(RING), (ALL,))

    def test_each_is_a_whole_split_into_neat_sets(self):
        sizes = set()
        for book in [*MANY, *[made_book(8, 12, seed) for seed in range(40)]]:
            told = neat_split(book)
            self.assertIs(type(told), tuple)
            self.assertIs(is_whole(book, told), True, book)
            for some in told:
                self.assertIsNone(first_rough(book, some))
            sizes.add(len(told))
        self.assertGreaterEqual(sizes, {1, 2, 3, 4, 5})

    def test_of_eight_columns_by_the_documents_words(self):
        for book in [*CHAINS, made_book(8, 12, 1), made_book(8, 5, 2)]:
            for some in neat_split(book):
                self.assertEqual(rough_ones(book, some), [])


class FairSplit(unittest.TestCase):
    def test_no_set_lies_in_another_one(self):
        for book in MANY:
            for split in [fair_split(book), neat_split(book)]:
                for one, other in itertools.permutations(split, 2):
                    self.assertFalse(lies(one, other), (book, split))

    def test_some(self):
        self.assertEqual(fair_split(("abc", ())), ("abc",))
        self.assertEqual(fair_split(("ab", (("", "a"),))), ("a", "b"))
        self.assertEqual(fair_split(BOOK), ("ab", "bc", "cd"))
        self.assertEqual(fair_split(STREETS), ("abc",))
        self.assertEqual(fair_split((ALL, (("", ALL),))), (ALL,))

    def test_where_no_set_has_a_key_one_comes_to_it(self):
        self.assertEqual(fair_split(("abcd", (("a", "b"), ("c", "d")))), ("ab", "ac", "cd"))
        self.assertEqual(fair_split(("abc", (("a", "b"),))), ("ab", "ac"))

    def test_a_hanging_that_tells_nothing_brings_no_set(self):
        self.assertEqual(fair_split(("abcd", (("a", "b"), ("a", "c"), ("a", "d"), ("bc", "c")))), ("ab", "ac", "ad"))
        self.assertEqual(fair_split(("abc", (("", ""), ("a", "b"), ("a", "bc"), ("b", "c")))), ("ab", "bc"))

    def test_each_is_a_whole_split_into_fair_sets_that_loses_nothing(self):
        sizes = set()
        for book in [*MANY, SHRINKING_CHAIN, *[made_book(8, 12, seed) for seed in range(40)]]:
            told = fair_split(book)
            self.assertIs(type(told), tuple)
            self.assertIs(is_whole(book, told), True, book)
            self.assertEqual(lost(book, told), [], book)
            for some in told:
                self.assertIs(is_fair(book, some), True, (book, some))
            sizes.add(len(told))
        self.assertGreaterEqual(sizes, {1, 2, 3, 4, 5})

    def test_of_eight_columns_by_the_documents_words(self):
        for book in [*CHAINS, made_book(8, 12, 1), made_book(8, 5, 2)]:
            for some in fair_split(book):
                self.assertIs(is_fair_by_its_words(book, some), True)


class Refused(unittest.TestCase):
    def test_no_book_whatever_stands_beside_it(self):
        for thing in NO_BOOKS:
            with self.subTest(thing=thing):
                self.assertRaises(NoBook, neat_split, thing)
                self.assertRaises(NoBook, fair_split, thing)
                for other in ["a", "", ("a",), None, 7, ["a"], ()]:
                    for question in [lost, first_rough, is_fair]:
                        self.assertRaises(NoBook, question, thing, other)

    def test_no_split(self):
        for thing in NO_SPLITS_OF_BDF:
            with self.subTest(thing=thing):
                self.assertRaises(NoSplit, lost, BDF, thing)
        self.assertRaises(NoSplit, lost, (ALL, ()), SIXTY_FIVE)

    def test_no_set(self):
        for thing in [*NO_SETS_OF_BDF, ""]:
            with self.subTest(thing=thing):
                self.assertRaises(NoSet, first_rough, BDF, thing)
                self.assertRaises(NoSet, is_fair, BDF, thing)
        for book, thing in itertools.product(BOOKS, [*NO_SETS, ""]):
            self.assertRaises(NoSet, first_rough, book, thing)
            self.assertRaises(NoSet, is_fair, book, thing)


if __name__ == "__main__":
    unittest.main()
