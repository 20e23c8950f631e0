"""Promises 30 and 31: papers, which show what follows, and tables of two rows, which show what doesn't."""

import itertools
import unittest

from keytables.errors import NoBook, NoHanging
from keytables.papers import is_paper, paper_of, two_rows
from keytables.tables import first_broken, is_table, keeps
from plainly import Papers, covers, does_follow, hangings_of, made_book, made_books, sets_of
from things import (ALL, BOOKS, CHAINS, NO_BOOKS, NO_HANGINGS, NO_HANGINGS_OF_BDF, NO_SETS_OF_BDF, RISING_CHAIN,
                    SHRINKING_CHAIN)

BOOK = ("abcd", (("a", "b"), ("b", "c"), ("cd", "a")))
PAPER = (
    (("a", "b"), ("given", 0)),
    (("b", "c"), ("given", 1)),
    (("a", "c"), ("on", 0, 1)),
    (("ad", "cd"), ("more", 2, "d")),
    (("cd", "a"), ("given", 2)),
    (("ad", "a"), ("on", 3, 4)),
    (("abc", "ac"), ("own",)),
    (("abcd", "abcd"), ("more", 5, "bcd")),
)

# What is put in the place of each part of a paper.
OTHERS = [
    None, True, False, 0, 1, 2, 5, 7, 60, -1, "", "a", "b", "d", "ab", "ba", "aa", "z", "own", "given", "on", "more",
    "0", [], {}, (), ["a", "b"], ("a", "b"), ("b", "c"), ("a",), ("a", "b", "c"), ("own",), ["own"], ("given", 0),
    ("given", 1), ["given", 0], ("on", 0, 1), ("more", 0, ""), {"a": "b"}, {0: 1}, (("a", "b"), ("given", 0)),
    (("a", "a"), ("own",)), [("a", "b"), ("given", 0)],
]


def places(thing, ahead=()):
    """The ways to all parts of a tuple, and to its parts' parts."""
    for at, part in enumerate(thing):
        yield ahead + (at,)
        if isinstance(part, tuple):
            yield from places(part, ahead + (at,))


def part_at(thing, way):
    for at in way:
        thing = thing[at]
    return thing


def put_at(thing, way, part):
    """The thing with another part at the end of the way."""
    if not way:
        return part
    at = way[0]
    return thing[:at] + (put_at(thing[at], way[1:], part),) + thing[at + 1:]


def own(left, right):
    return (left, right), ("own",)


class Tried(unittest.TestCase):
    """What a test of papers asks again and again."""

    def assert_good(self, *steps, book=BOOK):
        with self.subTest(steps=steps):
            self.assertIs(is_paper(book, steps), True)

    def assert_bad(self, *steps, book=BOOK):
        with self.subTest(steps=steps):
            self.assertIs(is_paper(book, steps), False)


class Given(Tried):
    def test_each_number_of_the_book(self):
        for k, hanging in enumerate(BOOK[1]):
            self.assert_good((hanging, ("given", k)))

    def test_a_number_of_another_hanging(self):
        for k, hanging in itertools.product(range(3), hangings_of("abcd")):
            if hanging != BOOK[1][k]:
                self.assertIs(is_paper(BOOK, ((hanging, ("given", k)),)), False)

    def test_no_number_of_the_book(self):
        for k in [3, 4, 12, -1, -3, 10 ** 29, True, False, "0", "", None, [0], (0,), {}]:
            for hanging in BOOK[1]:
                self.assert_bad((hanging, ("given", k)))

    def test_a_book_without_hangings(self):
        for k in [0, 1, -1]:
            self.assert_bad((("a", "a"), ("given", k)), book=("ab", ()))

    def test_below_nought_is_not_from_the_end(self):
        self.assert_bad((("cd", "a"), ("given", -1)))
        self.assert_bad((("a", "b"), ("given", -3)))

    def test_truths_are_no_numbers(self):
        self.assert_bad((("a", "b"), ("given", False)))
        self.assert_bad((("b", "c"), ("given", True)))

    def test_other_lengths(self):
        for why in [("given",), ("given", 0, 0), ("given", 0, ""), (0,), ("given", (0,)), ("given 0",)]:
            self.assert_bad((("a", "b"), why))


class Own(Tried):
    def test_just_where_the_right_lies_in_the_left(self):
        for left, right in hangings_of("abcd"):
            self.assertIs(is_paper(BOOK, (own(left, right),)), set(right) <= set(left))

    def test_a_right_with_signs_side_by_side_or_not(self):
        self.assert_good(own("abcd", "ad"))
        self.assert_good(own("", ""))
        self.assert_bad(own("", "a"))

    def test_other_lengths(self):
        for why in [(), ("own", 0), ("own", ""), ("own", None), ("own", "own"), (("own",),)]:
            self.assert_bad((("ab", "a"), why))


class More(Tried):
    def test_each_set_of_columns(self):
        for some in sets_of("abcd"):
            left, right = ["".join(sorted(set(side + some))) for side in ("a", "b")]
            self.assert_good(PAPER[0], ((left, right), ("more", 0, some)))

    def test_without_columns_the_hanging_stays(self):
        self.assert_good(PAPER[0], (("a", "b"), ("more", 0, "")))
        self.assert_bad(PAPER[0], (("ac", "bc"), ("more", 0, "")))
        self.assert_bad(PAPER[0], (("b", "c"), ("more", 0, "")))

    def test_both_sides_have_it(self):
        for hanging in [("ac", "b"), ("a", "bc"), ("c", "c"), ("acd", "bc"), ("ac", "bcd"), ("a", "b"), ("bc", "ac")]:
            self.assert_bad(PAPER[0], (hanging, ("more", 0, "c")))

    def test_what_is_no_set_of_the_heads_columns(self):
        for some in ["e", "ce", "h", "dc", "cc", "C", "c ", "-", None, 0, True, [], ["c"], (), ("c",), {}, {"c": 1}]:
            self.assert_bad(PAPER[0], (("ac", "bc"), ("more", 0, some)))
            self.assert_bad(PAPER[0], (("a", "b"), ("more", 0, some)))

    def test_what_is_no_set_at_all(self):
        book = ("bdf", (("b", "d"),))
        for some in NO_SETS_OF_BDF:
            steps = ((("b", "d"), ("given", 0)), (("b", "d"), ("more", 0, some)))
            self.assertIs(is_paper(book, steps), False, some)

    def test_numbers_of_steps(self):
        steps = [own("a", "a"), own("a", "a"), (("a", "a"), ("more", 0, "")), own("a", "a")]
        for i in [0, 1]:
            self.assert_good(*put_at(tuple(steps), (2, 1, 1), i))
        for i in [2, 3, 4, -1, -2, 60, True, False, "0", None, [0], (0,), 10 ** 29]:
            self.assert_bad(*put_at(tuple(steps), (2, 1, 1), i))

    def test_the_first_step_has_none_ahead(self):
        for i in [0, 1, -1]:
            self.assert_bad((("a", "a"), ("more", i, "")))

    def test_other_lengths(self):
        for why in [("more",), ("more", 0), ("more", 0, "", ""), ("more", "", 0), ("more", 0, 0)]:
            self.assert_bad(own("a", "a"), (("a", "a"), why))


class On(Tried):
    def test_two_that_meet(self):
        self.assert_good(PAPER[0], PAPER[1], (("a", "c"), ("on", 0, 1)))
        self.assert_good(PAPER[1], PAPER[0], (("a", "c"), ("on", 1, 0)))

    def test_two_that_do_not(self):
        self.assert_bad(PAPER[0], PAPER[1], (("a", "c"), ("on", 1, 0)))
        self.assert_bad(PAPER[0], PAPER[1], (("b", "b"), ("on", 1, 0)))
        self.assert_bad(PAPER[0], PAPER[1], (("a", "c"), ("on", 0, 0)))
        # the left of the other lies in the right of the one, and the other way about; neither is it
        self.assert_bad(own("ab", "ab"), own("a", ""), (("ab", ""), ("on", 0, 1)))
        self.assert_bad(own("a", ""), own("ab", "b"), (("a", "b"), ("on", 0, 1)))

    def test_another_hanging(self):
        for hanging in hangings_of("abcd"):
            steps = (PAPER[0], PAPER[1], (hanging, ("on", 0, 1)))
            self.assertIs(is_paper(BOOK, steps), hanging == ("a", "c"))

    def test_one_step_twice(self):
        self.assert_good(own("ab", "ab"), (("ab", "ab"), ("on", 0, 0)))
        self.assert_bad(own("ab", "a"), (("ab", "a"), ("on", 0, 0)))

    def test_numbers_of_steps(self):
        steps = (own("a", "a"), own("a", "a"), (("a", "a"), ("on", 0, 1)), own("a", "a"))
        for i, j in itertools.product([0, 1], repeat=2):
            self.assert_good(*put_at(steps, (2, 1), ("on", i, j)))
        for k in [2, 3, 4, -1, -2, 60, True, False, "0", None, [0], (0,), 10 ** 29]:
            self.assert_bad(*put_at(steps, (2, 1), ("on", 0, k)))
            self.assert_bad(*put_at(steps, (2, 1), ("on", k, 0)))
            self.assert_bad(*put_at(steps, (2, 1), ("on", k, k)))

    def test_the_first_step_has_none_ahead(self):
        for i, j in itertools.product([0, 1, -1], repeat=2):
            self.assert_bad((("a", "a"), ("on", i, j)))

    def test_other_lengths(self):
        for why in [("on",), ("on", 0), ("on", 0, 0, 0), (0, 0), ("on", (0, 0))]:
            self.assert_bad(own("a", "a"), (("a", "a"), why))


class IsPaper(Tried):
    def test_a_paper_and_each_beginning_of_it(self):
        for many in range(1, len(PAPER) + 1):
            self.assert_good(*PAPER[:many])

    def test_how_many_steps(self):
        for many in range(63):
            self.assertIs(is_paper(BOOK, (own("a", "a"),) * many), 1 <= many <= 60, many)
        long = tuple([own("a", "a")] + [(("a", "a"), ("on", k, 0)) for k in range(60)])
        self.assertIs(is_paper(BOOK, long[:60]), True)
        self.assertIs(is_paper(BOOK, long), False)

    def test_a_bad_step_anywhere(self):
        for at in range(len(PAPER)):
            for bad in [own("a", "b"), (("a", "b"), ("given", 1)), None, (), own("e", "e")]:
                self.assert_bad(*PAPER[:at], bad, *PAPER[at + 1:])

    def test_another_word(self):
        for word in ["", "Own", "own ", "mine", None, 0, True, [], ("own",), {}, "a", "given", "on", "more"]:
            self.assert_bad((("ab", "a"), (word,)))
        for word in ["own", "more", "on", "Given", "", None, 0, [], "give"]:
            self.assert_bad((("a", "b"), (word, 0)))
        for word in ["own", "given", "ON", "", None, 0, False, {}]:
            self.assert_bad(own("a", "a"), (("a", "a"), (word, 0, 0)))
            self.assert_bad(own("a", "a"), (("a", "a"), (word, 0, "")))

    def test_a_why_that_is_no_tuple(self):
        for why in [["own"], "own", {"own": True}, None, 0, True, [], {}, ""]:
            self.assert_bad((("ab", "a"), why))
        self.assert_bad((("a", "b"), ["given", 0]))
        self.assert_bad(own("a", "a"), (("a", "a"), ["on", 0, 0]))
        self.assert_bad(own("a", "a"), (("a", "a"), ["more", 0, ""]))

    def test_a_step_of_another_length_or_kind(self):
        hanging, why = PAPER[0]
        for step in [(), (hanging,), (hanging, why, why), (why, hanging), [hanging, why], hanging, why, "own", None, 7,
                     True, {hanging: why}, ("a", "b", ("own",)), (*hanging, *why)]:
            self.assert_bad(step)

    def test_a_hanging_that_is_none_of_the_head(self):
        for thing in NO_HANGINGS_OF_BDF:
            steps = ((thing, ("own",)),)
            self.assertIs(is_paper(("bdf", (("b", "d"),)), steps), False, thing)
        for hanging in [("e", "e"), ("ae", "a"), ("abcdefgh", ""), ("ba", "a"), ["a", "a"], ("a",), ("ab", "a", "")]:
            self.assert_bad((hanging, ("own",)))

    def test_the_same_hanging_under_another_head(self):
        step = own("ab", "a")
        self.assert_good(step, book=("ab", ()))
        self.assert_bad(step, book=("a", ()))
        self.assert_bad(step, book=("bcd", ()))

    def test_what_is_no_tuple_of_steps(self):
        for thing in [None, 0, 7, True, False, "", "own", [], {}, (), [PAPER[0]], list(PAPER), {0: PAPER[0]}, PAPER[0],
                      (PAPER,), (list(PAPER),), [None] * 2999, (None,) * 60, ((((((),),),),),)]:
            with self.subTest(thing=thing):
                self.assertIs(is_paper(BOOK, thing), False)

    def test_another_part_in_each_place(self):
        papers, told = Papers(BOOK), []
        self.assertIs(papers.are_good(PAPER), True)
        for way, other in itertools.product(list(places(PAPER)), OTHERS):
            thing = put_at(PAPER, way, other)
            good = papers.are_good(thing)
            told.append(good)
            self.assertIs(is_paper(BOOK, thing), good, thing)
        self.assertGreater(told.count(True), 30)
        self.assertGreater(told.count(False), 2000)

    def test_a_part_more_a_part_fewer_and_a_list_in_each_place(self):
        papers = Papers(BOOK)
        for way in places(PAPER):
            part = part_at(PAPER, way)
            if isinstance(part, tuple):
                for other in [list(part), part + (None,), part + (0,), part + ("",), part[:-1], part[1:], part[::-1]]:
                    thing = put_at(PAPER, way, other)
                    self.assertIs(is_paper(BOOK, thing), papers.are_good(thing), thing)

    def test_of_other_books(self):
        for book in BOOKS[:5]:
            for way, other in itertools.product([(0,), (0, 0), (0, 1)], OTHERS):
                thing = put_at((own(book[0], ""),), way, other)
                self.assertIs(is_paper(book, thing), Papers(book).are_good(thing), thing)

    def test_no_book_whatever_stands_beside_it(self):
        for thing, other in itertools.product(NO_BOOKS, [PAPER, (own("a", "a"),), None, (), [], 7, "a"]):
            self.assertRaises(NoBook, is_paper, thing, other)


def asked():
    """Books with hangings of their heads: all of small ones, some of great ones."""
    for book in [*BOOKS, BOOK, *made_books()]:
        sets = sets_of(book[0])
        if len(sets) <= 8:
            yield from itertools.product([book], hangings_of(book[0]))
        else:
            yield from itertools.product([book], itertools.product(sets[::11], [*book[0], *sets[::17], book[0]]))
    for book in CHAINS:
        yield from itertools.product([book], itertools.product(["", *ALL, ALL], ["", *ALL, "ah", ALL]))


class PaperOf(unittest.TestCase):
    def assert_shown(self, book, hanging):
        told = paper_of(book, hanging)
        if not does_follow(book, hanging):
            self.assertIsNone(told, (book, hanging))
            return
        self.assertIs(type(told), tuple)
        self.assertLessEqual(len(told), 60)
        self.assertIs(is_paper(book, told), True, (book, hanging))
        self.assertEqual(told[-1][0], hanging)

    def test_just_what_follows_is_shown(self):
        for book, hanging in asked():
            self.assert_shown(book, hanging)

    def test_a_told_paper_is_one_by_all_steps(self):
        for book in [BOOK, ("abc", (("", "a"), ("ab", "c"))), ("bdf", (("b", "d"), ("bd", "bdf"), ("f", "")))]:
            papers = Papers(book)
            for hanging in hangings_of(book[0]):
                told = paper_of(book, hanging)
                self.assertIs(papers.are_good(told), does_follow(book, hanging))

    def test_a_right_without_columns(self):
        for book in [*BOOKS, *CHAINS]:
            for left in sets_of(book[0])[::5]:
                self.assert_shown(book, (left, ""))
                self.assertIsNotNone(paper_of(book, (left, "")))

    def test_a_right_that_lies_in_the_left(self):
        for book in [*BOOKS, *CHAINS]:
            for left in sets_of(book[0])[::5]:
                self.assert_shown(book, (left, left))
                self.assert_shown(book, (left, left[1:]))
                self.assertIsNotNone(paper_of(book, (left, left[:1])))

    def test_eight_columns_and_twelve_hangings(self):
        steepest = (ALL, SHRINKING_CHAIN[1] + RISING_CHAIN[1][:4])
        many = [made_book(8, 14, seed) for seed in range(60)]
        great = [(head, hangings[:12]) for head, hangings in many] + [(ALL, tuple(sorted(set(steepest[1]))))]
        self.assertIn(12, [len(book[1]) for book in great])
        for book in great:
            for left in ["", "a", "d", "h", "bc", "eg", "acf", "bdfh"]:
                self.assert_shown(book, (left, covers(book)[left]))
                self.assert_shown(book, (left, ALL))

    def test_a_told_paper_is_one_of_a_book_with_another_hanging_too_if_it_is_not_given(self):
        told = paper_of(("abc", ()), ("abc", "ac"))
        self.assertIs(is_paper(("abc", (("a", "b"),)), told), True)


class TwoRows(unittest.TestCase):
    def test_some(self):
        self.assertEqual(two_rows(("a", ()), ("", "a")), ("a", ((0,), (1,))))
        self.assertEqual(two_rows(BOOK, ("b", "a")), ("abcd", ((0, 0, 0, 0), (1, 0, 0, 1))))
        self.assertEqual(two_rows(BOOK, ("", "abcd")), ("abcd", ((0, 0, 0, 0), (1, 1, 1, 1))))
        self.assertEqual(two_rows(BOOK, ("a", "d")), ("abcd", ((0, 0, 0, 0), (0, 0, 0, 1))))
        self.assertIsNone(two_rows(BOOK, ("a", "c")))
        self.assertIsNone(two_rows(BOOK, ("a", "")))

    def test_it_is_a_table_that_keeps_the_book_and_not_the_hanging(self):
        for book, hanging in asked():
            told = two_rows(book, hanging)
            if does_follow(book, hanging):
                self.assertIsNone(told, (book, hanging))
                continue
            self.assertIs(type(told), tuple)
            self.assertIs(is_table(told), True)
            self.assertIs(keeps(told, book), True, (book, hanging))
            self.assertEqual(first_broken(told, hanging), (0, 1), (book, hanging))

    def test_the_rows_are_those_that_the_document_tells(self):
        for book, hanging in asked():
            if not does_follow(book, hanging):
                covered = covers(book)[hanging[0]]
                other = tuple(0 if column in covered else 1 for column in book[0])
                self.assertEqual(two_rows(book, hanging), (book[0], ((0,) * len(book[0]), other)))

    def test_either_a_paper_or_two_rows(self):
        for book, hanging in asked():
            self.assertNotEqual(paper_of(book, hanging) is None, two_rows(book, hanging) is None)


class Refused(unittest.TestCase):
    def test_no_hanging(self):
        book = ("bdf", (("b", "d"),))
        for thing in NO_HANGINGS_OF_BDF:
            self.assertRaises(NoHanging, paper_of, book, thing)
            self.assertRaises(NoHanging, two_rows, book, thing)
        for other, thing in itertools.product(BOOKS, NO_HANGINGS):
            self.assertRaises(NoHanging, paper_of, other, thing)
            self.assertRaises(NoHanging, two_rows, other, thing)

    def test_no_book_ahead_of_it(self):
        for thing, other in itertools.product(NO_BOOKS, [("a", "a"), ("", ""), None, ("a",), ["a", "a"], 7, ("i", "")]):
            self.assertRaises(NoBook, paper_of, thing, other)
            self.assertRaises(NoBook, two_rows, thing, other)


if __name__ == "__main__":
    unittest.main()
