"""Promises 81 to 83: splits, the filled rows, whole splits and fill papers."""

import itertools
import unittest

from keytables.errors import NoBook, NoSplit
from keytables.fills import fill_of, filled, is_fill, is_whole
from keytables.tables import is_table, keeps
from plainly import (dice, does_follow, filled_in_any_order, is_good_fill, is_kept, join_of, made_book,
                     made_books, made_splits, made_table, part_of, sets_of)
from things import (ALL, BOOKS, CHAINS, GROWING_CHAIN, NO_BOOKS, NO_SPLITS_OF_BDF, PAIRS, RING, RISING_CHAIN,
                    SIXTY_FIVE, SIXTY_FOUR)

BOOK = ("abcd", (("a", "b"), ("b", "c"), ("c", "d")))
BDF = ("bdf", (("", "b"), ("b", "d"), ("d", "f")))
# Here no hanging lies in a set of the split, and the filling needs several steps.
CROSSED = ("abcde", (("a", "c"), ("b", "c"), ("c", "d"), ("ce", "a"), ("de", "c")))
CROSSED_SPLIT = ("ab", "ad", "ae", "be", "cde")
MANY = [(book, split) for at, book in enumerate([*BOOKS, *CHAINS, *made_books()])
        for split in made_splits(book[0], at)]
SMALL = [(book, split) for book, split in MANY if len(book[0]) <= 4]


def kept_table(book, seed):
    """A table that keeps the book: of thrown rows those that do with the ones ahead."""
    head, hangings = book
    rows = []
    for row in made_table(len(head), 12, 3, seed)[1]:
        if all(is_kept((head, [*rows, row]), hanging) for hanging in hangings):
            rows.append(row)
    return head, tuple(rows)


class Filled(unittest.TestCase):
    def test_without_hangings_they_stay_as_they_begin(self):
        self.assertEqual(filled(("abc", ()), ("ab", "bc")), [(0, 0, 1), (2, 0, 0)])
        self.assertEqual(filled(("abc", ()), ("a", "b", "c")), [(0, 1, 1), (2, 0, 2), (3, 3, 0)])
        self.assertEqual(filled(("h", ()), ("h",)), [(0,)])

    def test_the_lesser_number_stays(self):
        self.assertEqual(filled(("abc", (("b", "c"),)), ("ab", "bc")), [(0, 0, 0), (2, 0, 0)])
        self.assertEqual(filled(("abcd", (("a", "d"),)), ("ab", "ac", "bcd")),
                         [(0, 0, 1, 1), (0, 2, 0, 1), (3, 0, 0, 0)])
        self.assertEqual(filled(("abcd", (("c", "a"),)), ("ac", "b", "bcd", "cd")),
                         [(0, 1, 0, 1), (2, 0, 2, 2), (0, 0, 0, 0), (0, 4, 0, 0)])

    def test_a_number_gives_way_in_all_rows_that_have_it_there(self):
        # c is 1 in the first row and in no other, until the second takes it; then both are 0 there
        book = ("abcd", (("a", "c"), ("d", "c")))
        self.assertEqual(filled(book, ("ab", "ad", "bcd")), [(0, 0, 0, 1), (0, 2, 0, 0), (3, 0, 0, 0)])

    def test_it_gives_way_in_that_column_alone(self):
        self.assertEqual(filled(("abc", (("a", "b"),)), ("a", "ab", "c")), [(0, 0, 1), (0, 0, 2), (3, 3, 0)])

    def test_a_left_without_columns(self):
        self.assertEqual(filled(("ab", (("", "a"),)), ("a", "b")), [(0, 1), (0, 0)])
        self.assertEqual(filled(("abc", (("", "abc"),)), ("a", "b", "c")), [(0, 0, 0)] * 3)
        self.assertEqual(filled((ALL, (("", ALL),)), tuple(ALL)), [(0,) * 8] * 8)

    def test_one_hanging_opens_the_way_for_another_one_ahead(self):
        book = ("abcd", (("b", "a"), ("c", "b"), ("d", "c")))
        self.assertEqual(filled(book, ("a", "abc", "cd")), [(0, 1, 1, 1), (0, 0, 0, 2), (0, 0, 0, 0)])

    def test_each_row_stands_at_the_place_of_its_set(self):
        for book, split in MANY:
            told = filled(book, split)
            self.assertEqual([type(told), *{type(row) for row in told}], [list, tuple])
            self.assertEqual(len(told), len(split))
            for row, some in zip(told, split):
                self.assertEqual(len(row), len(book[0]))
                self.assertEqual({row[book[0].index(column)] for column in some}, {0})

    def test_in_whatever_order(self):
        for seed, (book, split) in enumerate(MANY):
            if len(split) <= 9:
                told = filled(book, split)
                for turn in range(3):
                    self.assertEqual(told, filled_in_any_order(book, split, dice(10 * seed + turn)), (book, split))

    def test_sixty_four_sets(self):
        for book in [PAIRS, (ALL, ())]:
            self.assertEqual(filled(book, SIXTY_FOUR), filled_in_any_order(book, SIXTY_FOUR, dice(5)))
        for book in [*CHAINS, *[made_book(8, 12, seed) for seed in range(9)]]:
            told = filled(book, SIXTY_FOUR)
            self.assertEqual(len(told), 64)
            self.assertIs(keeps((ALL, tuple(sorted(set(told)))), book), True)

    def test_a_list_that_was_changed_does_not_change_the_next_one(self):
        told = filled(BOOK, ("ab", "cd"))
        told.pop()
        self.assertEqual(filled(BOOK, ("ab", "cd"))[:1], told)


class IsWhole(unittest.TestCase):
    def test_without_hangings_only_with_the_head_itself(self):
        for head in ["a", "bd", "bdf", ALL]:
            for split in made_splits(head, 7):
                self.assertIs(is_whole((head, ()), split), head in split)

    def test_with_the_head_itself_always(self):
        for book, split in MANY:
            self.assertIs(is_whole(book, tuple(sorted({*split, book[0]}))), True)

    def test_two_sets_are_whole_where_what_both_have_tells_one_of_them(self):
        for seed in range(12):
            book = made_book(4, 3, seed)
            for one, other in itertools.combinations(sets_of(book[0])[1:], 2):
                if set(one) | set(other) == set(book[0]):
                    both = "".join(sorted(set(one) & set(other)))
                    told = does_follow(book, (both, one)) or does_follow(book, (both, other))
                    self.assertIs(is_whole(book, (one, other)), told, (book, one, other))

    def test_some(self):
        self.assertIs(is_whole(BOOK, ("ab", "bc", "cd")), True)
        self.assertIs(is_whole(BOOK, ("ab", "ac", "cd")), True)
        self.assertIs(is_whole(BOOK, ("abd", "cd")), False)
        self.assertIs(is_whole(BOOK, ("ab", "cd")), False)
        self.assertIs(is_whole(("abc", (("b", "c"),)), ("ab", "bc")), True)
        self.assertIs(is_whole(("abc", (("b", "c"),)), ("ac", "bc")), False)
        self.assertIs(is_whole(("abc", (("", "c"),)), ("ab", "c")), True)
        self.assertIs(is_whole(("abc", (("", "c"),)), ("a", "bc")), False)
        self.assertIs(is_whole(CROSSED, CROSSED_SPLIT), True)
        self.assertIs(is_whole(RISING_CHAIN, tuple(ALL[k:k + 2] for k in range(7))), True)
        self.assertIs(is_whole(RISING_CHAIN, ("abcd", "efgh")), False)
        self.assertIs(is_whole(RING, ("abcd", "defgh")), True)
        self.assertIs(is_whole(PAIRS, ("abcd", "efgh")), False)
        self.assertIs(is_whole(GROWING_CHAIN, tuple(ALL)), True)

    def test_just_where_a_row_has_0_in_all_columns(self):
        told = []
        for book, split in MANY:
            told.append(is_whole(book, split))
            self.assertIs(told[-1], (0,) * len(book[0]) in filled(book, split))
        self.assertGreater(told.count(True), 100)
        self.assertGreater(told.count(False), 100)

    def test_a_whole_split_gives_tables_back(self):
        for seed, (book, split) in enumerate(SMALL):
            if is_whole(book, split):
                for turn in range(3):
                    table = kept_table(book, 10 * seed + turn)
                    self.assertEqual(join_of([part_of(table, some) for some in split]), table)

    def test_else_the_filled_rows_are_a_table_that_does_not_come_again(self):
        for book, split in MANY:
            if not is_whole(book, split) and len(split) <= 9:
                head = book[0]
                table = (head, tuple(sorted(set(filled(book, split)))))
                self.assertIs(is_table(table), True)
                self.assertIs(keeps(table, book), True)
                self.assertNotIn((0,) * len(head), table[1])
                for some in split:
                    self.assertIn((0,) * len(some), part_of(table, some)[1])
        for book, split in SMALL:
            if not is_whole(book, split) and len(split) <= 4:
                table = (book[0], tuple(sorted(set(filled(book, split)))))
                self.assertIn((0,) * len(book[0]), join_of([part_of(table, some) for some in split])[1])


class IsFill(unittest.TestCase):
    def test_the_one_of_no_step(self):
        for book, split in MANY:
            self.assertIs(is_fill(book, split, ()), book[0] in split)

    def test_good_ones(self):
        split = ("ab", "bc", "cd")
        for thing in [((1, 0, 1), (2, 0, 2)), ((1, 0, 1), (2, 1, 2), (2, 0, 1)), ((2, 1, 2), (1, 0, 1), (2, 0, 1)),
                      ((1, 0, 1), (1, 0, 1), (2, 0, 2), (2, 0, 2)), ((1, 0, 1), (2, 0, 2), (2, 1, 2))]:
            self.assertIs(is_fill(BOOK, split, thing), True, thing)
        self.assertIs(is_fill(BDF, ("b", "d", "f"), ((0, 0, 1), (1, 0, 1), (0, 0, 2), (1, 0, 2), (2, 0, 2))), True)

    def test_where_no_row_has_0_in_all_columns_behind_it(self):
        split = ("ab", "bc", "cd")
        for thing in [(), ((1, 0, 1),), ((2, 1, 2),), ((1, 0, 1), (1, 0, 1)), ((1, 0, 1), (2, 1, 2))]:
            self.assertIs(is_fill(BOOK, split, thing), False, thing)

    def test_rows_that_are_not_the_same_in_the_left(self):
        split = ("ab", "bc", "cd")
        for thing in [((0, 0, 1), (1, 0, 1), (2, 0, 2)), ((2, 0, 2), (1, 0, 1)), ((2, 0, 1), (1, 0, 1), (2, 0, 2)),
                      ((1, 0, 1), (2, 0, 2), (0, 0, 1)), ((1, 0, 2), (1, 0, 1), (2, 0, 2))]:
            self.assertIs(is_fill(BOOK, split, thing), False, thing)

    def test_the_order_of_steps_counts(self):
        good = ((1, 0, 1), (2, 0, 2))
        self.assertIs(is_fill(BOOK, ("ab", "bc", "cd"), good), True)
        self.assertIs(is_fill(BOOK, ("ab", "bc", "cd"), good[::-1]), False)

    def test_bad_numbers_in_each_place(self):
        good = ((0, 0, 1), (1, 0, 1), (0, 0, 2), (1, 0, 2), (2, 0, 2))
        split = ("b", "d", "f")
        bad = [-1, 3, 4, 10 ** 29, -10 ** 29, True, False, None, "0", "", "1", (), (0,), [0], {}, {0: 1}]
        for at, place, thing in itertools.product(range(5), range(3), bad):
            step = list(good[at])
            step[place] = thing
            steps = (*good[:at], tuple(step), *good[at + 1:])
            self.assertIs(is_fill(BDF, split, steps), False, steps)

    def test_truths_that_are_the_same_as_good_numbers(self):
        good = ((0, 0, 1), (1, 0, 1))
        book, split = ("ab", (("", "a"), ("a", "b"))), ("a", "b")
        self.assertIs(is_fill(book, split, good), True)
        for at, place in itertools.product(range(2), range(3)):
            step = list(good[at])
            step[place] = bool(step[place])
            self.assertIs(is_fill(book, split, (*good[:at], tuple(step), *good[at + 1:])), False)

    def test_i_equal_to_j_and_greater(self):
        good = ((1, 0, 1), (2, 0, 2))
        for step in [(1, 0, 0), (1, 1, 1), (1, 1, 0), (2, 2, 0), (2, 2, 2), (2, 2, 1)]:
            for at in range(3):
                self.assertIs(is_fill(BOOK, ("ab", "bc", "cd"), (*good[:at], step, *good[at:])), False)

    def test_lists_at_each_depth_and_other_lengths(self):
        good = ((1, 0, 1), (2, 0, 2))
        split = ("ab", "bc", "cd")
        for thing in [list(good), [list(step) for step in good], ([1, 0, 1], (2, 0, 2)), ((1, 0, 1), [2, 0, 2]),
                      ((1, 0, 1), (2, 0)), ((1, 0, 1), (2, 0, 2, 0)), ((1, 0), (2, 0, 2)), ((1, 0, 1, 0), (2, 0, 2)),
                      ((1, 0, 1), ()), ((), *good), (*good, ()), (good,), (1, 0, 1), (*good, None), (None, *good),
                      ((1, 0, 1), "202"), ((1, 0, 1), {2: 0}), {good: True}, {0: good[0], 1: good[1]}, (*good, 7)]:
            self.assertIs(is_fill(BOOK, split, thing), False, thing)

    def test_what_is_no_tuple(self):
        for thing in [None, True, False, 0, 7, "", "ab", "a" * 400, [], {}, {"a": 1}, [[[[[7]]]]], [None] * 2999]:
            for split in [("abcd",), ("ab", "bc", "cd")]:
                self.assertIs(is_fill(BOOK, split, thing), False, thing)

    def test_how_many_steps(self):
        good = ((1, 0, 1), (2, 0, 2))
        split = ("ab", "bc", "cd")
        for many, told in [(598, True), (599, False), (600, False), (700, False)]:
            self.assertIs(is_fill(BOOK, split, good + ((2, 0, 1),) * many), told)
            self.assertIs(is_fill(BOOK, split, ((1, 0, 1),) * many + good), told)
        for many, told in [(1, True), (600, True), (601, False)]:
            self.assertIs(is_fill(("ab", (("", ""),)), ("a", "ab"), ((0, 0, 1),) * many), told)

    def test_a_bad_step_behind_good_ones(self):
        good = ((1, 0, 1), (2, 0, 2))
        for step in [(0, 0, 1), (3, 0, 1), (1, 0, 3), (1, 1, 0), None]:
            self.assertIs(is_fill(BOOK, ("ab", "bc", "cd"), (*good, step)), False)

    def test_without_hangings_there_is_no_step(self):
        self.assertIs(is_fill(("ab", ()), ("a", "ab"), ()), True)
        self.assertIs(is_fill(("ab", ()), ("a", "ab"), ((0, 0, 1),)), False)

    def test_against_all_steps_that_there_can_be(self):
        told = []
        for seed, (book, split) in enumerate(SMALL):
            if not book[1] or len(split) > 5:
                continue
            thrown = dice(seed)
            for turn in range(12):
                steps = tuple((next(thrown) % len(book[1]), next(thrown) % len(split), next(thrown) % len(split))
                              for step in range(turn % 4))
                steps = tuple((k, min(i, j), max(i, j)) for k, i, j in steps)
                for thing in [steps, (*(fill_of(book, split) or ()), *steps), (fill_of(book, split) or ())[turn % 3:]]:
                    told.append(is_fill(book, split, thing))
                    self.assertIs(told[-1], is_good_fill(book, split, thing), (book, split, thing))
        self.assertGreater(told.count(True), 300)
        self.assertGreater(told.count(False), 300)


class FillOf(unittest.TestCase):
    def test_each_told_one_is_a_fill_paper(self):
        longest = 0
        for book, split in MANY:
            told = fill_of(book, split)
            self.assertIs(told is not None, is_whole(book, split))
            if told is not None:
                self.assertIs(type(told), tuple)
                self.assertIs(is_fill(book, split, told), True)
                self.assertIs(is_good_fill(book, split, told), True)
                longest = max(longest, len(told))
        self.assertGreater(longest, 20)

    def test_of_sixty_four_sets(self):
        for book in [*CHAINS, made_book(8, 12, 3), made_book(8, 12, 4), (ALL, (("", ALL),))]:
            told = fill_of(book, SIXTY_FOUR)
            self.assertIs(is_fill(book, SIXTY_FOUR, told), True)
        far = tuple(some for some in sets_of(ALL) if 0 < len(some) <= 2)
        for book in [*CHAINS, (ALL, tuple((column, ALL) for column in ALL))]:
            told = fill_of(book, far)
            self.assertIs(told is not None, is_whole(book, far))
            if told is not None:
                self.assertIs(is_fill(book, far, told), True)

    def test_none_where_it_is_not_whole(self):
        self.assertIsNone(fill_of(("ab", ()), ("a", "b")))
        self.assertIsNone(fill_of(BOOK, ("ab", "cd")))

    def test_with_the_head_itself(self):
        told = fill_of(("ab", ()), ("a", "ab"))
        self.assertEqual(told, ())


class Splits(unittest.TestCase):
    def questions(self, book, split):
        yield lambda: filled(book, split)
        yield lambda: is_whole(book, split)
        yield lambda: is_fill(book, split, ())
        yield lambda: is_fill(book, split, None)
        yield lambda: fill_of(book, split)

    def test_all_splits_of_a_small_head(self):
        sets = sets_of("bdf")
        for many in range(len(sets) + 1):
            for split in itertools.combinations(sets, many):
                good = "" not in split and {*"".join(split)} == {*"bdf"}
                for question in self.questions(BDF, split):
                    if good:
                        question()
                    else:
                        self.assertRaises(NoSplit, question)

    def test_no_split(self):
        for thing in NO_SPLITS_OF_BDF:
            with self.subTest(thing=thing):
                for question in self.questions(BDF, thing):
                    self.assertRaises(NoSplit, question)

    def test_of_another_head(self):
        for book, split in itertools.product(BOOKS, [("ag",), ("a", "g"), ("abg", "h")]):
            for question in self.questions(book, split):
                self.assertRaises(NoSplit, question)

    def test_how_many_sets(self):
        self.assertEqual(len(SIXTY_FOUR), 64)
        for question in self.questions((ALL, ()), SIXTY_FOUR):
            question()
        for split in [SIXTY_FIVE, tuple(sets_of(ALL)[1:])]:
            for question in self.questions((ALL, ()), split):
                self.assertRaises(NoSplit, question)

    def test_no_book_ahead_of_all(self):
        for thing in NO_BOOKS:
            for split in [("a",), (), None, "a", ["a"]]:
                for question in self.questions(thing, split):
                    self.assertRaises(NoBook, question)


if __name__ == "__main__":
    unittest.main()
