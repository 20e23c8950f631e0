"""Promises 40 and 41: tables, what they keep, and in what their rows agree."""

import itertools
import unittest

from keytables.errors import NoBook, NoHanging, NoTable, Unlike
from keytables.tables import agreements, first_broken, is_table, keeps
from plainly import breaking, dice, hangings_of, made_book, made_tables, sets_of
from things import (ALL, BOOKS, LONGEST, NO_BOOKS, NO_HANGINGS, NO_HANGINGS_OF_BDF, NO_SETS, NO_TABLES, TABLES)

MANY = [*TABLES, *made_tables()]
# Both (0, 3) and (1, 2) break ("b", "c"), so the first row tells, not how near the two stand.
CROSSED = ("abc", ((0, 5, 0), (1, 6, 0), (2, 6, 1), (3, 5, 1)))


def some_hangings(head, seed):
    """All hangings of a small head, and forty of a great one."""
    sets, thrown = sets_of(head), dice(seed)
    if len(sets) <= 8:
        return hangings_of(head)
    sides = [sets[next(thrown) % len(sets)] for turn in range(80)]
    return [*zip(sides[::2], sides[1::2]), ("", head), (head, ""), ("", ""), (head, head), (head[0], head[-1])]


class IsTable(unittest.TestCase):
    def test_tables(self):
        for thing in MANY:
            with self.subTest(thing=thing):
                self.assertIs(is_table(thing), True)

    def test_what_is_no_table(self):
        for thing in NO_TABLES:
            with self.subTest(thing=thing):
                self.assertIs(is_table(thing), False)

    def test_how_many_rows(self):
        for head in ["a", "bd", ALL]:
            rows = tuple((number,) * len(head) for number in range(90))
            for many in [0, 1, 2, 79, 80, 81, 90]:
                with self.subTest(head=head, many=many):
                    self.assertIs(is_table((head, rows[:many])), many <= 80)

    def test_how_many_figures(self):
        for number in [0, 9, -9, LONGEST, -LONGEST, 10 ** 29, -10 ** 29]:
            self.assertIs(is_table(("a", ((number,),))), True)
            self.assertIs(is_table(("bc", ((number, 0),))), True)
        for number in [LONGEST + 1, -LONGEST - 1, 10 ** 31 - 1, -10 ** 31 + 1]:
            self.assertIs(is_table(("a", ((number,),))), False)
            self.assertIs(is_table(("bc", ((0, number),))), False)

    def test_truths_are_no_numbers_in_any_place(self):
        good = ("abc", ((0, 0, 1), (0, 1, 0), (1, 1, 1)))
        self.assertIs(is_table(good), True)
        for at, place, truth in itertools.product(range(3), range(3), [True, False]):
            rows = [list(row) for row in good[1]]
            if rows[at][place] == truth:
                rows[at][place] = truth
                self.assertIs(is_table(("abc", tuple(tuple(row) for row in rows))), False, rows)

    def test_only_the_rising_order_is_a_table(self):
        rising = ((-1, 5), (0, -7), (0, 0), (0, 3), (2, -9))
        for order in itertools.permutations(rising):
            self.assertIs(is_table(("ab", order)), order == rising)

    def test_one_row_twice(self):
        for at in range(3):
            rows = [(0, 1), (0, 2), (3, 0)]
            rows.insert(at, rows[at])
            self.assertIs(is_table(("ab", tuple(rows))), False)

    def test_a_row_too_short_or_too_long_in_each_place(self):
        for at, many in itertools.product(range(3), [0, 1, 3, 8]):
            rows = [(0, 0), (1, 0), (2, 0)]
            rows[at] = (at, 0, 0, 0, 0, 0, 0, 0)[:many]
            self.assertIs(is_table(("ab", tuple(rows))), False, rows)

    def test_lists_at_each_depth(self):
        self.assertIs(is_table(("ab", ((0, 0), (1, 1)))), True)
        for thing in [["ab", ((0, 0), (1, 1))], ("ab", [(0, 0), (1, 1)]), ("ab", ([0, 0], (1, 1))),
                      ("ab", ((0, 0), [1, 1])), ("ab", ((0, [0]), (1, 1))), (["ab"], ((0, 0), (1, 1)))]:
            with self.subTest(thing=thing):
                self.assertIs(is_table(thing), False)

    def test_what_is_no_set_is_no_head(self):
        for head in [*NO_SETS, ""]:
            with self.subTest(head=head):
                self.assertIs(is_table((head, ())), False)
                self.assertIs(is_table((head, ((1,),))), False)


class FirstBroken(unittest.TestCase):
    def test_without_rows_and_with_one_all_is_kept(self):
        for table in [("ab", ()), ("ab", ((3, 4),))]:
            for hanging in hangings_of("ab"):
                self.assertIsNone(first_broken(table, hanging))

    def test_the_first_of_several(self):
        self.assertEqual(first_broken(CROSSED, ("b", "c")), (0, 3))
        self.assertEqual(first_broken(CROSSED, ("c", "b")), (0, 1))
        self.assertEqual(first_broken(CROSSED, ("c", "a")), (0, 1))
        self.assertEqual(first_broken(CROSSED, ("b", "ac")), (0, 3))
        self.assertIsNone(first_broken(CROSSED, ("a", "bc")))
        self.assertIsNone(first_broken(CROSSED, ("bc", "a")))

    def test_only_the_last_two_break_it(self):
        rows = tuple((number, number, 0) for number in range(78)) + ((78, 99, 0), (79, 99, 1))
        self.assertEqual(first_broken(("abc", rows), ("b", "c")), (78, 79))
        self.assertIsNone(first_broken(("abc", rows[:79]), ("b", "c")))

    def test_a_left_without_columns(self):
        self.assertEqual(first_broken(CROSSED, ("", "c")), (0, 2))
        self.assertEqual(first_broken(CROSSED, ("", "b")), (0, 1))
        self.assertEqual(first_broken(CROSSED, ("", "bc")), (0, 1))
        self.assertIsNone(first_broken(("ab", ((0, 7), (1, 7), (2, 7))), ("", "b")))
        self.assertEqual(first_broken(("ab", ((0, 7), (1, 7), (2, 8))), ("", "b")), (0, 2))

    def test_a_right_without_columns(self):
        for table in MANY:
            for left in ["", table[0][0], table[0]]:
                self.assertIsNone(first_broken(table, (left, "")))

    def test_a_right_that_lies_in_the_left(self):
        for table in MANY:
            self.assertIsNone(first_broken(table, (table[0], table[0])))
            self.assertIsNone(first_broken(table, (table[0], table[0][-1])))

    def test_great_numbers_that_are_nearly_the_same(self):
        table = ("ab", ((LONGEST - 1, 0), (LONGEST, 1)))
        self.assertIsNone(first_broken(table, ("a", "b")))
        self.assertEqual(first_broken(("ab", ((0, LONGEST - 1), (0, LONGEST))), ("a", "b")), (0, 1))
        self.assertIsNone(first_broken(("ab", ((-1, 0), (1, 1))), ("a", "b")))

    def test_against_all_pairs(self):
        found = []
        for seed, table in enumerate(MANY):
            if len(table[1]) > 40:
                continue
            for hanging in some_hangings(table[0], seed):
                told = first_broken(table, hanging)
                self.assertEqual(told, min(breaking(table, hanging), default=None), (table, hanging))
                found.append(told)
                self.assertIn(type(told), [tuple, type(None)])
        self.assertGreater(len(set(found)), 15)


class Keeps(unittest.TestCase):
    def test_some(self):
        table = ("abc", ((0, 5, 0), (1, 6, 0), (2, 6, 0)))
        for hangings in [(), (("a", "b"),), (("", "c"), ("a", "bc")), (("a", "bc"), ("b", "c"), ("bc", ""))]:
            self.assertIs(keeps(table, ("abc", hangings)), True)
        for hangings in [(("", "b"),), (("b", "a"),), (("", "c"), ("b", "a")), (("a", "b"), ("b", "a"), ("bc", ""))]:
            self.assertIs(keeps(table, ("abc", hangings)), False)

    def test_without_rows_and_with_one_each_book_is_kept(self):
        for head, hangings in BOOKS:
            self.assertIs(keeps((head, ()), (head, hangings)), True)
            self.assertIs(keeps((head, ((7,) * len(head),)), (head, hangings)), True)

    def test_against_all_pairs(self):
        told = []
        for seed, (head, rows) in enumerate(MANY):
            hangings = [hanging for hanging in some_hangings(head, seed) if len(hanging[0]) >= len(head) - 1]
            for many in range(4):
                book = (head, tuple(sorted(set(hangings[many:2 * many]))))
                kept = all(not breaking((head, rows[:20]), hanging) for hanging in book[1])
                self.assertIs(keeps((head, rows[:20]), book), kept)
                told.append(kept)
        self.assertGreater(told.count(False), 5)
        self.assertGreater(told.count(True), 5)

    def test_the_last_hanging_counts_as_the_first(self):
        rows = ((0, 0, 0), (0, 0, 1))
        for k, hangings in enumerate([(("", "c"), ("a", "b"), ("b", "a")), (("a", "b"), ("a", "c"), ("b", "a")),
                                      (("a", "b"), ("b", "a"), ("b", "c"))]):
            self.assertIs(keeps(("abc", rows), ("abc", hangings)), False)
            self.assertIs(keeps(("abc", rows), ("abc", hangings[:k] + hangings[k + 1:])), True)


class Agreements(unittest.TestCase):
    def test_no_row_and_one_row_have_none(self):
        for head in ["a", "bdf", ALL]:
            self.assertEqual(agreements((head, ())), [])
            self.assertEqual(agreements((head, ((5,) * len(head),))), [])

    def test_rows_alike_in_nothing(self):
        self.assertEqual(agreements(("ab", ((0, 0), (1, 1)))), [""])
        self.assertEqual(agreements((ALL, tuple((number,) * 8 for number in range(80)))), [""])

    def test_each_once(self):
        self.assertEqual(agreements(("ab", ((0, 0), (0, 1), (0, 2)))), ["a"])
        self.assertEqual(agreements(("ab", ((0, 0), (0, 1), (1, 0), (1, 1)))), ["", "a", "b"])

    def test_they_rise_as_texts(self):
        self.assertEqual(agreements(CROSSED), ["", "b", "c"])
        self.assertEqual(agreements(("abc", ((0, 0, 0), (0, 0, 1), (2, 0, 1)))), ["ab", "b", "bc"])
        self.assertEqual(agreements(("bdf", ((0, 1, 2), (0, 3, 2), (4, 3, 2)))), ["bf", "df", "f"])

    def test_against_all_pairs(self):
        for head, rows in MANY:
            sets = {"".join(column for at, column in enumerate(head) if one[at] == other[at])
                    for one, other in itertools.combinations(rows, 2)}
            told = agreements((head, rows))
            self.assertIs(type(told), list)
            self.assertEqual(told, sorted(sets))

    def test_a_hanging_is_kept_just_where_the_agreements_tell_it(self):
        for seed, table in enumerate(MANY):
            told = agreements(table)
            for left, right in some_hangings(table[0], seed)[:20]:
                kept = all(set(right) <= set(one) for one in told if set(left) <= set(one))
                self.assertIs(first_broken(table, (left, right)) is None, kept)

    def test_a_list_that_was_changed_does_not_change_the_next_one(self):
        told = agreements(CROSSED)
        told.clear()
        self.assertEqual(agreements(CROSSED), ["", "b", "c"])


class Refused(unittest.TestCase):
    def test_no_table_whatever_stands_beside_it(self):
        beside = [("a", "a"), ("", ""), ("a", ()), ("ab", (("a", "b"),)), None, "a", 7, ["a", "b"], ("i", "a"), ("a",)]
        for thing in NO_TABLES:
            with self.subTest(thing=thing):
                self.assertRaises(NoTable, agreements, thing)
                for other in beside:
                    self.assertRaises(NoTable, first_broken, thing, other)
                    self.assertRaises(NoTable, keeps, thing, other)

    def test_no_hanging(self):
        table = ("bdf", ((0, 0, 0), (1, 1, 1)))
        for thing in NO_HANGINGS_OF_BDF:
            self.assertRaises(NoHanging, first_broken, table, thing)
        for other, thing in itertools.product(TABLES, NO_HANGINGS):
            self.assertRaises(NoHanging, first_broken, other, thing)

    def test_no_book(self):
        for table, thing in itertools.product(TABLES, NO_BOOKS):
            self.assertRaises(NoBook, keeps, table, thing)

    def test_unlike(self):
        for (head, rows), book in itertools.product(TABLES, [*BOOKS, made_book(3, 3, 1)]):
            if head != book[0]:
                self.assertRaises(Unlike, keeps, (head, rows), book)
        self.assertRaises(Unlike, keeps, ("ab", ((0, 0),)), ("abc", (("a", "b"),)))
        self.assertRaises(Unlike, keeps, ("abc", ((0, 0, 0),)), ("ab", (("a", "b"),)))

    def test_unlike_comes_behind_no_table_and_no_book(self):
        self.assertRaises(NoTable, keeps, ("ab", ((1, 1), (0, 0))), ("abc", ()))
        self.assertRaises(NoBook, keeps, ("ab", ((0, 0), (1, 1))), ("abc", (("b", "a"), ("a", "b"))))
        self.assertRaises(NoTable, keeps, ("ab", ((1, 1), (0, 0))), ("abc", (("b", "a"), ("a", "b"))))


if __name__ == "__main__":
    unittest.main()
