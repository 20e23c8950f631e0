"""Promise 80: parts of tables, and tables joined."""

import itertools
import unittest

from keytables.errors import NoSet, NoTable, TooMany
from keytables.joins import joined, part
from keytables.tables import is_table
from plainly import at, join_of, made_table, made_tables, sets_of
from things import ALL, LONGEST, NO_SETS, NO_SETS_OF_BDF, NO_TABLES, TABLES

MANY = [*TABLES, *made_tables()]
SMALL = [made_table(columns, many, 2, 10 * columns + many) for columns in range(1, 6) for many in [0, 1, 3, 6]]


def numbers(head, many):
    """A table with the numbers from 0 up to below many in each column."""
    return head, tuple((number,) * len(head) for number in range(many))


class Part(unittest.TestCase):
    def test_without_rows(self):
        for head in ["a", "bdf", ALL]:
            for some in sets_of(head)[1:]:
                self.assertEqual(part((head, ()), some), (some, ()))

    def test_several_rows_become_one(self):
        table = ("abc", ((0, 5, 1), (1, 5, 1), (2, 6, 1)))
        self.assertEqual(part(table, "bc"), ("bc", ((5, 1), (6, 1))))
        self.assertEqual(part(table, "c"), ("c", ((1,),)))
        self.assertEqual(part(("ab", tuple((number, 7) for number in range(80))), "b"), ("b", ((7,),)))

    def test_rows_in_another_order_rise(self):
        table = ("abc", ((0, 9, 1), (1, 5, -4), (2, 6, 0)))
        self.assertEqual(part(table, "b"), ("b", ((5,), (6,), (9,))))
        self.assertEqual(part(table, "bc"), ("bc", ((5, -4), (6, 0), (9, 1))))
        self.assertEqual(part(table, "ac"), ("ac", ((0, 1), (1, -4), (2, 0))))

    def test_by_the_whole_head(self):
        for table in MANY:
            self.assertEqual(part(table, table[0]), table)

    def test_against_all_rows(self):
        for table in MANY:
            sets = sets_of(table[0])[1:]
            for some in sets[::max(len(sets) // 16, 1)]:
                told = part(table, some)
                self.assertIs(is_table(told), True)
                self.assertEqual(told, (some, tuple(sorted({at(table[0], row, some) for row in table[1]}))))


class Joined(unittest.TestCase):
    def test_with_the_same_head_the_rows_of_both(self):
        one, other = ("ab", ((0, 0), (0, 1), (1, 0))), ("ab", ((0, 1), (1, 0), (1, 1)))
        self.assertEqual(joined(one, other), ("ab", ((0, 1), (1, 0))))
        self.assertEqual(joined(numbers("ab", 80), numbers("ab", 80)), numbers("ab", 80))
        self.assertEqual(joined(("a", ((0,),)), ("a", ((1,),))), ("a", ()))
        for table in MANY:
            self.assertEqual(joined(table, table), table)

    def test_that_share_some_columns(self):
        one, other = ("abd", ((0, 5, 1), (1, 5, 2), (2, 6, 1))), ("bce", ((5, 0, 9), (5, 1, 8), (7, 7, 7)))
        told = ("abcde", ((0, 5, 0, 1, 9), (0, 5, 1, 1, 8), (1, 5, 0, 2, 9), (1, 5, 1, 2, 8)))
        self.assertEqual(joined(one, other), told)
        self.assertEqual(joined(other, one), told)
        self.assertEqual(joined(("abc", ((0, 1, 2), (0, 1, 3), (0, 2, 2))), ("bc", ((1, 3), (2, 2), (2, 3)))),
                         ("abc", ((0, 1, 3), (0, 2, 2))))

    def test_both_shared_columns_count(self):
        one, other = ("abc", ((0, 1, 1), (0, 1, 2), (0, 2, 1))), ("bcd", ((1, 1, 7), (1, 3, 7), (2, 2, 7)))
        self.assertEqual(joined(one, other), ("abcd", ((0, 1, 1, 7),)))

    def test_that_share_none(self):
        told = ("abcd", ((0, 7, 0, 5), (0, 8, 0, 5), (1, 7, 2, 5), (1, 8, 2, 5)))
        self.assertEqual(joined(("ac", ((0, 0), (1, 2))), ("bd", ((7, 5), (8, 5)))), told)
        self.assertEqual(joined(("bd", ((7, 5), (8, 5))), ("ac", ((0, 0), (1, 2)))), told)

    def test_without_rows_on_either_side(self):
        for other in MANY:
            for head in ["a", "bd", ALL]:
                both = "".join(sorted(set(head) | set(other[0])))
                self.assertEqual(joined((head, ()), other), (both, ()))
                self.assertEqual(joined(other, (head, ())), (both, ()))

    def test_one_number_is_another_than_its_negative(self):
        self.assertEqual(joined(("ab", ((-1, 0), (1, 0))), ("ac", ((1, 5),))), ("abc", ((1, 0, 5),)))
        table = ("ab", ((-LONGEST, 0), (LONGEST, LONGEST)))
        self.assertEqual(joined(table, ("a", ((LONGEST,),))), ("ab", ((LONGEST, LONGEST),)))

    def test_just_eighty(self):
        told = joined(numbers("a", 8), numbers("b", 10))
        self.assertEqual(told, ("ab", tuple(itertools.product(range(8), range(10)))))
        self.assertEqual(len(joined(numbers("a", 80), numbers("b", 1))[1]), 80)
        self.assertEqual(len(joined(numbers("abc", 80), numbers("bcd", 80))[1]), 80)

    def test_too_many(self):
        for one, other, many in [(9, 9, 81), (27, 3, 81), (2, 41, 82), (80, 2, 160), (80, 80, 6400)]:
            with self.subTest(one=one, other=other):
                with self.assertRaises(TooMany) as caught:
                    joined(numbers("a", one), numbers("b", other))
                self.assertEqual((caught.exception.many, caught.exception.most), (many, 80))

    def test_too_many_that_share_a_column(self):
        one = ("ab", tuple((number, 0) for number in range(40)) + ((40, 1),))
        other = ("bc", ((0, 0), (0, 1), (1, 0), (1, 1)))
        with self.assertRaises(TooMany) as caught:
            joined(one, other)
        self.assertEqual((caught.exception.many, caught.exception.most), (82, 80))
        self.assertEqual(len(joined((one[0], one[1][1:]), other)[1]), 80)

    def test_against_all_rows(self):
        sizes = set()
        for one, other in itertools.product(SMALL, repeat=2):
            told = join_of([one, other])
            if len(told[1]) <= 80:
                self.assertEqual(joined(one, other), told)
                self.assertIs(is_table(joined(one, other)), True)
                sizes.add(len(told[1]))
            else:
                self.assertRaises(TooMany, joined, one, other)
        self.assertGreater(len(sizes), 8)

    def test_parts_joined_have_the_rows_of_the_table(self):
        for table in SMALL:
            for one, other in itertools.product(sets_of(table[0])[1:], repeat=2):
                if set(one) | set(other) == set(table[0]):
                    told = joined(part(table, one), part(table, other))
                    self.assertEqual(told, join_of([part(table, one), part(table, other)]))
                    self.assertLessEqual(set(table[1]), set(told[1]))


class Refused(unittest.TestCase):
    def test_no_table_whatever_stands_beside_it(self):
        for thing in NO_TABLES:
            with self.subTest(thing=thing):
                for other in ["a", "", "i", None, 7]:
                    self.assertRaises(NoTable, part, thing, other)
                for other in [("a", ()), ("ab", ((0, 0),)), None, "a"]:
                    self.assertRaises(NoTable, joined, thing, other)
                    self.assertRaises(NoTable, joined, other, thing)

    def test_no_set(self):
        for thing in [*NO_SETS_OF_BDF, ""]:
            with self.subTest(thing=thing):
                self.assertRaises(NoSet, part, ("bdf", ((0, 0, 0), (1, 1, 1))), thing)
        for table, thing in itertools.product(TABLES, [*NO_SETS, ""]):
            self.assertRaises(NoSet, part, table, thing)


if __name__ == "__main__":
    unittest.main()
