"""Promises 90 to 92: a shelf, its deeds, and what it tells."""

import copy
import itertools
import unittest

from keytables.errors import (Broken, Gone, NoBook, NoColumn, NoDeed, NoDeeds, NoGiven, NoHanging, NoNumber, NoRow,
                              TableError, There, TooMany)
from keytables.shelf import Shelf
from keytables.tables import is_table, keeps
from plain_shelf import PlainShelf, Refused
from plainly import dice, made_book, sets_of
from things import ALL, BOOKS, LONGEST, NO_BOOKS, NO_HANGINGS_OF_BDF, twelve_hangings

BOOK = ("abc", (("a", "b"), ("b", "c")))
NO_ROWS = [
    None, True, 0, 7, "", "000", "abc", (), (0,), (0, 0), (0, 0, 0, 0), [0, 0, 0], [(0, 0, 0)], ((0, 0, 0),), {},
    {0: 0, 1: 0, 2: 0}, (0, 0, None), (None, 0, 0), (0, "0", 0), (0, 0, True), (False, 0, 0), (0, 0, [0]), (0, 0, (0,)),
    (0, 0, LONGEST + 1), (-LONGEST - 1, 0, 0), (0, 10 ** 30, 0), (0, 0, {}),
]
NO_COLUMNS = [None, True, 0, 1, "", "d", "h", "ab", "abc", "aa", "A", " ", "a ", "i", ["a"], ("a",), (), {}, {"a": 1}]
NO_NUMBERS = [None, True, False, "", "0", "1", LONGEST + 1, -LONGEST - 1, 10 ** 30, [], [1], (), (1,), {}, {1: 1}]
# Every fault that a list of deeds can have; none of them is one.
NO_DEEDS = [
    None, True, 0, 7, "", "put", {}, {"put": (0, 0, 0)}, [None], [0], [True], ["put"], [[]], [()], ((),), [{}],
    [["put", (0, 0, 0)]], (["put", (0, 0, 0)],), ("put", (0, 0, 0)), ["put", (0, 0, 0)], [(("put", (0, 0, 0)),)],
    [("put",)], [("put", (0, 0, 0), 0)], [("take",)], [("take", (0, 0, 0), 0)], [("hang",)], [("hang", "a", "b")],
    [("loose",)], [("loose", 0, 0)], [("turn",)], [("turn", (0, 0, 0))], [("turn", (0, 0, 0), "a")],
    [("turn", (0, 0, 0), "a", 1, 1)], [("back",)], [("back", 0)], [("together", ())], [("together", [])],
    [("Put", (0, 0, 0))], [("put ", (0, 0, 0))], [("", (0, 0, 0))], [("p", (0, 0, 0))], [(None, (0, 0, 0))],
    [(0, (0, 0, 0))], [(["put"], (0, 0, 0))], [({}, (0, 0, 0))], [(("put",), (0, 0, 0))], [("table",)], [("book", 0)],
    [("deeds", 0)], [("having", {})], [("known", {})], [("keep", 0)], [("fresh", 0)],
]


def shelf_of(book, *rows):
    """A shelf with some rows."""
    shelf = Shelf(book)
    for row in rows:
        shelf.put(row)
    return shelf


def all_of(shelf):
    return shelf.table(), shelf.book(), shelf.deeds()


class Same(unittest.TestCase):
    def refuses(self, kind, shelf, word, *things):
        """Raise what is due, and change neither the shelf nor what is handed in."""
        ahead, handed = all_of(shelf), copy.deepcopy(things)
        with self.assertRaises(TableError) as caught:
            getattr(shelf, word)(*things)
        self.assertIs(type(caught.exception), kind, (word, things))
        self.assertEqual(all_of(shelf), ahead)
        self.assertEqual(repr(things), repr(handed))
        return caught.exception

    def fields(self, kind, shelf, word, *things):
        error = self.refuses(kind, shelf, word, *things)
        return (error.number, error.one, error.other) if kind is Broken else (error.many, error.most)

    def done(self, shelf, word, *things):
        """The deed is done, tells nothing and stands; back makes all as it was, and it is done again."""
        ahead = all_of(shelf)
        self.assertIsNone(getattr(shelf, word)(*things))
        behind = all_of(shelf)
        self.assertEqual(behind[2], ahead[2] + 1)
        self.assertIsNone(shelf.back())
        self.assertEqual(all_of(shelf), ahead)
        self.assertIsNone(getattr(shelf, word)(*things))
        self.assertEqual(all_of(shelf), behind)


class Made(Same):
    def test_without_rows(self):
        for book in BOOKS:
            self.assertEqual(all_of(Shelf(book)), ((book[0], ()), book, 0))

    def test_no_book(self):
        for thing in NO_BOOKS:
            with self.subTest(thing=thing):
                self.assertRaises(NoBook, Shelf, thing)

    def test_the_methods_stand_in_the_class_itself(self):
        for word in ["put", "take", "turn", "hang", "loose", "together", "back", "table", "book", "deeds", "having",
                     "known"]:
            self.assertIn(word, vars(Shelf))


class Put(Same):
    def test_rows_rise(self):
        shelf = Shelf(("ab", ()))
        for row in [(1, 0), (0, 5), (-3, 7), (0, -5), (1, 1)]:
            self.done(shelf, "put", row)
        self.assertEqual(shelf.table(), ("ab", ((-3, 7), (0, -5), (0, 5), (1, 0), (1, 1))))
        self.assertEqual(shelf.deeds(), 5)

    def test_thirty_figures(self):
        shelf = Shelf(BOOK)
        self.done(shelf, "put", (LONGEST, -LONGEST, 0))
        self.assertEqual(shelf.table(), ("abc", ((LONGEST, -LONGEST, 0),)))

    def test_no_row(self):
        shelf = shelf_of(BOOK, (5, 5, 5))
        for thing in NO_ROWS:
            self.refuses(NoRow, shelf, "put", thing)

    def test_there(self):
        shelf = shelf_of(BOOK, (0, 0, 0), (1, 1, 1))
        self.refuses(There, shelf, "put", (0, 0, 0))
        self.refuses(There, shelf, "put", (1, 1, 1))

    def test_too_many(self):
        shelf = shelf_of(("abc", ()), *[(number, 0, 0) for number in range(80)])
        self.assertEqual(len(shelf.table()[1]), 80)
        self.assertEqual(self.fields(TooMany, shelf, "put", (80, 0, 0)), (81, 80))
        shelf.take((40, 0, 0))
        self.done(shelf, "put", (-1, 0, 0))
        self.assertEqual(self.fields(TooMany, shelf, "put", (40, 0, 0)), (81, 80))

    def test_broken_where_the_row_comes_in_ahead_and_behind(self):
        shelf = shelf_of(BOOK, (5, 1, 1))
        self.assertEqual(self.fields(Broken, shelf, "put", (5, 0, 0)), (0, (5, 0, 0), (5, 1, 1)))
        self.assertEqual(self.fields(Broken, shelf, "put", (5, 2, 0)), (0, (5, 1, 1), (5, 2, 0)))
        self.assertEqual(self.fields(Broken, shelf, "put", (4, 1, 0)), (1, (4, 1, 0), (5, 1, 1)))
        self.assertEqual(self.fields(Broken, shelf, "put", (6, 1, 0)), (1, (5, 1, 1), (6, 1, 0)))

    def test_broken_of_the_first_hanging_of_several(self):
        shelf = shelf_of(("abc", (("", "c"), ("a", "b"), ("b", "c"))), (0, 0, 0), (1, 1, 0))
        self.assertEqual(self.fields(Broken, shelf, "put", (1, 0, 1)), (0, (0, 0, 0), (1, 0, 1)))
        self.assertEqual(self.fields(Broken, shelf, "put", (1, 0, 0)), (1, (1, 0, 0), (1, 1, 0)))

    def test_broken_of_the_first_pair(self):
        shelf = shelf_of(("abc", (("a", "c"),)), (0, 0, 5), (0, 3, 5), (0, 7, 5), (1, 0, 0))
        self.assertEqual(self.fields(Broken, shelf, "put", (0, 5, 6)), (0, (0, 0, 5), (0, 5, 6)))
        self.assertEqual(self.fields(Broken, shelf, "put", (0, -1, 6)), (0, (0, -1, 6), (0, 0, 5)))

    def test_two_reasons_at_once(self):
        shelf = shelf_of(("ab", (("b", "a"),)), *[(number, number) for number in range(80)])
        self.refuses(NoRow, shelf, "put", (True, 1))
        self.refuses(NoRow, shelf, "put", [1, 1])
        self.refuses(There, shelf, "put", (1, 1))
        self.assertEqual(self.fields(TooMany, shelf, "put", (1, 2)), (81, 80))


class Take(Same):
    def test_done(self):
        shelf = shelf_of(BOOK, (0, 0, 0), (1, 1, 1), (2, 2, 2))
        self.done(shelf, "take", (1, 1, 1))
        self.assertEqual(shelf.table(), ("abc", ((0, 0, 0), (2, 2, 2))))
        self.done(shelf, "take", (2, 2, 2))
        self.done(shelf, "take", (0, 0, 0))
        self.assertEqual(shelf.table(), ("abc", ()))

    def test_refused(self):
        shelf = shelf_of(BOOK, (0, 0, 0), (1, 1, 1))
        for thing in NO_ROWS:
            self.refuses(NoRow, shelf, "take", thing)
        self.refuses(NoRow, shelf, "take", (True, 1, 1))
        self.refuses(NoRow, shelf, "take", [1, 1, 1])
        self.refuses(Gone, shelf, "take", (1, 1, 2))
        shelf.take((1, 1, 1))
        self.refuses(Gone, shelf, "take", (1, 1, 1))
        self.refuses(Gone, Shelf(BOOK), "take", (0, 0, 0))


class Turn(Same):
    def test_done(self):
        shelf = shelf_of(BOOK, (0, 0, 0), (1, 1, 1))
        self.done(shelf, "turn", (0, 0, 0), "c", 5)
        self.assertEqual(shelf.table(), ("abc", ((0, 0, 5), (1, 1, 1))))
        self.done(shelf, "turn", (0, 0, 5), "a", 9)
        self.assertEqual(shelf.table(), ("abc", ((1, 1, 1), (9, 0, 5))))
        self.done(shelf, "turn", (9, 0, 5), "b", -LONGEST)
        self.assertEqual(shelf.table(), ("abc", ((1, 1, 1), (9, -LONGEST, 5))))

    def test_columns_by_their_names_not_their_places(self):
        shelf = shelf_of(("bdf", ()), (1, 2, 3))
        self.done(shelf, "turn", (1, 2, 3), "d", 7)
        self.assertEqual(shelf.table(), ("bdf", ((1, 7, 3),)))
        self.done(shelf, "turn", (1, 7, 3), "f", 8)
        self.assertEqual(shelf.table(), ("bdf", ((1, 7, 8),)))
        self.refuses(NoColumn, shelf, "turn", (1, 7, 8), "a", 7)

    def test_of_eighty_rows(self):
        shelf = shelf_of(("a", ()), *[(number,) for number in range(80)])
        self.done(shelf, "turn", (0,), "a", 80)
        self.assertEqual(len(shelf.table()[1]), 80)

    def test_refused(self):
        shelf = shelf_of(BOOK, (0, 0, 0), (1, 1, 1), (2, 1, 1))
        for thing in NO_ROWS:
            if thing != (0, 0, 0):
                self.refuses(NoRow, shelf, "turn", thing, "a", 7)
        self.refuses(Gone, shelf, "turn", (5, 5, 5), "a", 7)
        for thing in NO_COLUMNS:
            self.refuses(NoColumn, shelf, "turn", (1, 1, 1), thing, 7)
        for thing in NO_NUMBERS:
            self.refuses(NoNumber, shelf, "turn", (1, 1, 1), "a", thing)

    def test_there(self):
        shelf = shelf_of(BOOK, (0, 0, 0), (1, 1, 1), (2, 1, 1))
        self.refuses(There, shelf, "turn", (1, 1, 1), "a", 2)
        for row, column in itertools.product([(0, 0, 0), (1, 1, 1)], "abc"):
            self.refuses(There, shelf, "turn", row, column, row[0])

    def test_broken(self):
        shelf = shelf_of(BOOK, (0, 0, 0), (1, 1, 1), (2, 1, 1))
        self.assertEqual(self.fields(Broken, shelf, "turn", (1, 1, 1), "c", 5), (1, (1, 1, 5), (2, 1, 1)))
        self.assertEqual(self.fields(Broken, shelf, "turn", (2, 1, 1), "c", 5), (1, (1, 1, 1), (2, 1, 5)))
        self.assertEqual(self.fields(Broken, shelf, "turn", (1, 1, 1), "a", 0), (0, (0, 0, 0), (0, 1, 1)))
        # the row that is turned speaks no more with its old number
        self.done(shelf, "turn", (0, 0, 0), "c", 9)

    def test_two_reasons_at_once(self):
        shelf = shelf_of(BOOK, (0, 0, 0), (1, 1, 1))
        self.refuses(NoRow, shelf, "turn", (True, 1, 1), "z", None)
        self.refuses(NoRow, shelf, "turn", [5, 5, 5], "a", 1)
        self.refuses(Gone, shelf, "turn", (5, 5, 5), "z", 1)
        self.refuses(Gone, shelf, "turn", (5, 5, 5), "a", None)
        self.refuses(NoColumn, shelf, "turn", (1, 1, 1), "z", None)
        self.refuses(NoColumn, shelf, "turn", (1, 1, 1), None, True)
        self.refuses(NoNumber, shelf, "turn", (1, 1, 1), "a", True)
        self.refuses(NoNumber, shelf, "turn", (0, 0, 0), "a", False)


class Hang(Same):
    def test_done_in_order(self):
        shelf = shelf_of(("abc", (("b", "c"),)), (0, 0, 0), (1, 1, 1))
        for hanging in [("c", "a"), ("a", "b"), ("", ""), ("abc", ""), ("b", "a")]:
            self.done(shelf, "hang", hanging)
        self.assertEqual(shelf.book(), ("abc", (("", ""), ("a", "b"), ("abc", ""), ("b", "a"), ("b", "c"), ("c", "a"))))

    def test_no_hanging(self):
        shelf = shelf_of(("bdf", (("b", "d"),)), (0, 0, 0))
        for thing in NO_HANGINGS_OF_BDF:
            self.refuses(NoHanging, shelf, "hang", thing)

    def test_there(self):
        self.refuses(There, Shelf(BOOK), "hang", ("a", "b"))
        self.refuses(There, Shelf(BOOK), "hang", ("b", "c"))
        self.done(Shelf(BOOK), "hang", ("a", "c"))

    def test_twelve_and_the_thirteenth(self):
        hangings = twelve_hangings()
        shelf = Shelf(("abcd", hangings[:11]))
        self.done(shelf, "hang", hangings[11])
        self.assertEqual(shelf.book(), ("abcd", hangings))
        self.assertEqual(self.fields(TooMany, shelf, "hang", ("d", "a")), (13, 12))
        shelf.loose(3)
        self.done(shelf, "hang", ("d", "a"))

    def test_broken(self):
        shelf = shelf_of(("abc", (("c", "c"),)), (0, 0, 0), (0, 1, 0), (1, 1, 0), (2, 1, 5))
        self.assertEqual(self.fields(Broken, shelf, "hang", ("a", "b")), (0, (0, 0, 0), (0, 1, 0)))
        self.assertEqual(self.fields(Broken, shelf, "hang", ("", "c")), (0, (0, 0, 0), (2, 1, 5)))
        # its number is that in the book as it would be, ahead of a hanging of the book or behind it
        self.assertEqual(self.fields(Broken, shelf, "hang", ("c", "ac")), (0, (0, 0, 0), (1, 1, 0)))
        self.assertEqual(self.fields(Broken, shelf, "hang", ("c", "bc")), (0, (0, 0, 0), (0, 1, 0)))
        shelf.hang(("", ""))
        self.assertEqual(self.fields(Broken, shelf, "hang", ("b", "c")), (1, (0, 1, 0), (2, 1, 5)))

    def test_two_reasons_at_once(self):
        shelf = shelf_of(("abcd", twelve_hangings()[2:] + (("d", ""), ("d", "d"))), (0, 0, 0, 0))
        self.refuses(NoHanging, shelf, "hang", ["d", ""])
        self.refuses(There, shelf, "hang", ("d", ""))
        hangings = tuple((some, "") for some in sets_of("abcd")[:12])
        shelf = shelf_of(("abcd", hangings), (0, 0, 0, 0), (1, 0, 0, 0))
        self.assertEqual(self.fields(TooMany, shelf, "hang", ("", "a")), (13, 12))
        shelf.loose(5)
        self.assertEqual(self.fields(Broken, shelf, "hang", ("", "a")), (1, (0, 0, 0, 0), (1, 0, 0, 0)))


class Loose(Same):
    def test_done(self):
        shelf = Shelf(("abc", (("a", "b"), ("b", "c"), ("c", "a"))))
        self.done(shelf, "loose", 1)
        self.assertEqual(shelf.book(), ("abc", (("a", "b"), ("c", "a"))))
        self.done(shelf, "loose", 1)
        self.done(shelf, "loose", 0)
        self.assertEqual(shelf.book(), ("abc", ()))

    def test_what_was_broken_may_then_be_put_in(self):
        shelf = shelf_of(BOOK, (0, 0, 0))
        self.refuses(Broken, shelf, "put", (0, 1, 0))
        shelf.loose(0)
        self.done(shelf, "put", (0, 1, 0))

    def test_refused(self):
        for thing in [-1, 2, 3, 10 ** 29, -10 ** 29, 10 ** 31, True, False, None, "0", "", [], [0], (0,), {}, {0: 0}]:
            self.refuses(NoNumber, Shelf(BOOK), "loose", thing)
        self.refuses(NoNumber, Shelf(("a", ())), "loose", 0)


class Together(Same):
    def test_of_none_is_a_deed(self):
        shelf = Shelf(BOOK)
        for deeds in [(), []]:
            self.done(shelf, "together", deeds)
        self.assertEqual(shelf.deeds(), 2)

    def test_each_deed(self):
        for kind in [tuple, list]:
            shelf = shelf_of(BOOK, (0, 0, 0), (1, 1, 1))
            self.done(shelf, "together", kind([("put", (2, 2, 2)), ("take", (0, 0, 0)), ("turn", (1, 1, 1), "a", 5),
                                               ("hang", ("c", "b")), ("loose", 0)]))
            self.assertEqual(all_of(shelf), (("abc", ((2, 2, 2), (5, 1, 1))), ("abc", (("b", "c"), ("c", "b"))), 3))

    def test_each_sees_what_those_ahead_did(self):
        shelf = Shelf(BOOK)
        self.done(shelf, "together", [("put", (0, 0, 0)), ("turn", (0, 0, 0), "a", 1), ("take", (1, 0, 0)),
                                      ("loose", 1), ("loose", 0), ("hang", ("c", "a")), ("loose", 0)])
        self.assertEqual(all_of(shelf), (("abc", ()), ("abc", ()), 1))
        self.refuses(There, shelf, "together", [("put", (0, 0, 0)), ("put", (0, 0, 0))])
        self.refuses(Gone, shelf, "together", [("put", (0, 0, 0)), ("take", (0, 0, 0)), ("take", (0, 0, 0))])
        self.refuses(NoNumber, shelf, "together", [("hang", ("a", "b")), ("loose", 0), ("loose", 0)])

    def test_twenty_and_twenty_one(self):
        deeds = [("put", (number, 0, 0)) for number in range(21)]
        shelf = Shelf(("abc", ()))
        self.refuses(NoDeeds, shelf, "together", deeds)
        self.refuses(NoDeeds, shelf, "together", tuple(deeds))
        self.done(shelf, "together", deeds[:20])
        self.assertEqual((len(shelf.table()[1]), shelf.deeds()), (20, 1))

    def test_no_deeds(self):
        shelf = shelf_of(BOOK, (0, 0, 0))
        for thing in NO_DEEDS:
            self.refuses(NoDeeds, shelf, "together", thing)

    def test_no_deeds_ahead_of_all_deeds(self):
        shelf = shelf_of(BOOK, (0, 0, 0))
        for ahead in [("put", None), ("put", (0, 0, 0)), ("take", (5, 5, 5)), ("hang", None), ("loose", 9)]:
            for bad in [None, (), ("put",), ["put", (1, 1, 1)], ("back",), ("puts", (1, 1, 1))]:
                self.refuses(NoDeeds, shelf, "together", [ahead, bad])
                self.refuses(NoDeeds, shelf, "together", (bad, ahead))

    def test_refused_in_the_midst(self):
        shelf = shelf_of(("abc", ()), (0, 0, 0))
        for bad, kind in [(("put", [1, 1, 1]), NoRow), (("put", (0, 0, 0)), There), (("take", (7, 7, 7)), Gone),
                          (("take", None), NoRow), (("turn", (0, 0, 0), "d", 0), NoColumn),
                          (("turn", (0, 0, 0), "a", True), NoNumber), (("turn", (0, 0, 0), "a", 5), There),
                          (("hang", ("a", "i")), NoHanging), (("hang", ("a", "b")), There), (("loose", 7), NoNumber)]:
            deeds = [("put", (5, 0, 0)), ("hang", ("a", "b")), bad, ("put", (6, 6, 6))]
            self.refuses(kind, shelf, "together", deeds)
            self.refuses(kind, shelf, "together", tuple(deeds[:3]))

    def test_the_first_that_is_refused_tells(self):
        shelf = Shelf(BOOK)
        self.refuses(Gone, shelf, "together", [("take", (0, 0, 0)), ("put", None), ("loose", 9)])
        self.refuses(NoNumber, shelf, "together", [("loose", 9), ("take", (0, 0, 0)), ("put", None)])

    def test_broken_is_looked_at_behind_the_last_one_alone(self):
        shelf = shelf_of(BOOK, (0, 0, 0))
        self.done(shelf, "together", [("put", (0, 1, 0)), ("take", (0, 0, 0))])
        self.assertEqual(shelf.table(), ("abc", ((0, 1, 0),)))
        self.done(shelf, "together", [("put", (0, 2, 5)), ("loose", 0)])
        self.assertEqual(shelf.book(), ("abc", (("b", "c"),)))
        self.done(shelf, "together", [("hang", ("", "a")), ("put", (7, 7, 7)), ("take", (7, 7, 7))])
        # a deed behind the one that breaks is refused for its own reason
        self.refuses(Gone, shelf, "together", [("put", (0, 1, 9)), ("take", (8, 8, 8))])

    def test_broken_at_the_end(self):
        shelf = shelf_of(BOOK, (0, 0, 0), (3, 3, 3))
        self.assertEqual(self.fields(Broken, shelf, "together", [("put", (0, 1, 0)), ("put", (3, 0, 0))]),
                         (0, (0, 0, 0), (0, 1, 0)))
        self.assertEqual(self.fields(Broken, shelf, "together", [("put", (1, 0, 7)), ("hang", ("", "a"))]),
                         (0, (0, 0, 0), (1, 0, 7)))
        self.assertEqual(self.fields(Broken, shelf, "together", [("put", (1, 0, 7)), ("loose", 0)]),
                         (0, (0, 0, 0), (1, 0, 7)))
        self.assertEqual(self.fields(Broken, shelf, "together", [("put", (1, 0, 7)), ("hang", ("a", ""))]),
                         (2, (0, 0, 0), (1, 0, 7)))

    def test_too_many_in_the_midst(self):
        shelf = shelf_of(("a", ()), *[(number,) for number in range(79)])
        deeds = [("put", (100,)), ("put", (101,)), ("take", (0,))]
        self.assertEqual(self.fields(TooMany, shelf, "together", deeds), (81, 80))
        self.done(shelf, "together", [deeds[0], deeds[2], deeds[1]])
        hanging = Shelf(("abcd", twelve_hangings()))
        deeds = [("hang", ("d", "a")), ("loose", 0)]
        self.assertEqual(self.fields(TooMany, hanging, "together", deeds), (13, 12))
        self.done(hanging, "together", deeds[::-1])

    def test_it_is_one_deed_for_back(self):
        shelf = shelf_of(BOOK, (0, 0, 0))
        shelf.together([("put", (1, 1, 1)), ("put", (2, 2, 2)), ("loose", 0)])
        self.assertEqual(shelf.deeds(), 2)
        shelf.back()
        self.assertEqual(all_of(shelf), (("abc", ((0, 0, 0),)), BOOK, 1))

    def test_the_list_may_be_changed_later(self):
        deeds = [("put", (0, 0, 0))]
        shelf = Shelf(BOOK)
        shelf.together(deeds)
        deeds.append(("put", (1, 1, 1)))
        deeds[0] = None
        self.assertEqual(shelf.table(), ("abc", ((0, 0, 0),)))
        shelf.back()
        self.assertEqual(shelf.table(), ("abc", ()))


class Back(Same):
    def test_until_none_stands(self):
        shelf = Shelf(BOOK)
        told = [all_of(shelf)]
        for word, *things in [("put", (0, 0, 0)), ("put", (1, 1, 1)), ("turn", (0, 0, 0), "c", 8), ("hang", ("c", "b")),
                              ("take", (1, 1, 1)), ("loose", 1), ("together", []), ("together", [("loose", 0)])]:
            getattr(shelf, word)(*things)
            told.append(all_of(shelf))
        while len(told) > 1:
            self.assertEqual(all_of(shelf), told.pop())
            self.assertIsNone(shelf.back())
        self.assertEqual(all_of(shelf), told[0])
        self.refuses(NoDeed, shelf, "back")

    def test_what_is_undone_stands_no_more(self):
        shelf = shelf_of(BOOK, (0, 0, 0), (1, 1, 1))
        shelf.back()
        shelf.put((2, 2, 2))
        shelf.back()
        shelf.back()
        self.assertEqual(all_of(shelf), (("abc", ()), BOOK, 0))
        self.refuses(NoDeed, shelf, "back")

    def test_what_is_refused_is_no_deed(self):
        shelf = shelf_of(BOOK, (0, 0, 0))
        self.refuses(There, shelf, "put", (0, 0, 0))
        self.refuses(NoDeeds, shelf, "together", None)
        shelf.back()
        self.assertEqual(all_of(shelf), (("abc", ()), BOOK, 0))

    def test_of_a_new_shelf(self):
        for book in BOOKS:
            self.refuses(NoDeed, Shelf(book), "back")


class Having(unittest.TestCase):
    def test_some(self):
        shelf = shelf_of(BOOK, (0, 0, 0), (1, 0, 0), (2, 1, 0), (3, 1, 0))
        self.assertEqual(shelf.having({}), [(0, 0, 0), (1, 0, 0), (2, 1, 0), (3, 1, 0)])
        self.assertEqual(shelf.having({"b": 1}), [(2, 1, 0), (3, 1, 0)])
        self.assertEqual(shelf.having({"c": 0, "a": 1}), [(1, 0, 0)])
        self.assertEqual(shelf.having({"a": 3, "b": 1, "c": 0}), [(3, 1, 0)])
        self.assertEqual(shelf.having({"a": 3, "b": 0}), [])
        self.assertEqual(shelf.having({"a": -LONGEST}), [])
        self.assertEqual(Shelf(BOOK).having({}), [])

    def test_it_is_the_askers_own(self):
        shelf = shelf_of(BOOK, (0, 0, 0), (1, 0, 0))
        told = shelf.having({})
        told.clear()
        self.assertEqual(shelf.having({}), [(0, 0, 0), (1, 0, 0)])
        self.assertIs(type(shelf.having({"a": 0})), list)


class Known(unittest.TestCase):
    def test_the_given_ones_alone(self):
        shelf = shelf_of(BOOK, (0, 0, 0))
        for given in [{}, {"a": 5}, {"c": 0}, {"c": 7}, {"b": 9, "c": 7}]:
            self.assertEqual(shelf.known(given), given)
            self.assertEqual(Shelf(BOOK).known(given), given)
            self.assertEqual(shelf_of(("abc", ()), (0, 0, 0)).known(given), given)

    def test_through_several_hangings_in_turn(self):
        shelf = shelf_of(BOOK, (0, 5, 6), (1, 7, 8))
        self.assertEqual(shelf.known({"a": 0}), {"a": 0, "b": 5, "c": 6})
        self.assertEqual(shelf.known({"b": 7}), {"b": 7, "c": 8})
        # against the order of the hangings, and by numbers of several rows
        shelf = shelf_of(("abcd", (("b", "a"), ("c", "b"), ("d", "c"))), (1, 2, 3, 4), (5, 6, 7, 8))
        self.assertEqual(shelf.known({"d": 8}), {"a": 5, "b": 6, "c": 7, "d": 8})
        shelf = shelf_of(("abcd", (("ab", "c"), ("c", "d"))), (1, 2, 3, 4), (1, 5, 6, 7))
        self.assertEqual(shelf.known({"a": 1, "b": 5}), {"a": 1, "b": 5, "c": 6, "d": 7})
        self.assertEqual(shelf.known({"a": 1}), {"a": 1})

    def test_by_rows_that_have_the_left_and_not_all_given_numbers(self):
        shelf = shelf_of(("abc", (("a", "b"),)), (1, 2, 3))
        self.assertEqual(shelf.known({"a": 1, "c": 99}), {"a": 1, "b": 2, "c": 99})

    def test_a_left_without_columns(self):
        book = ("abc", (("", "a"), ("a", "b")))
        self.assertEqual(Shelf(book).known({}), {})
        self.assertEqual(Shelf(book).known({"c": 4}), {"c": 4})
        shelf = shelf_of(book, (1, 2, 3), (1, 2, 4))
        self.assertEqual(shelf.known({}), {"a": 1, "b": 2})
        self.assertEqual(shelf.known({"c": 9}), {"a": 1, "b": 2, "c": 9})
        self.assertIsNone(shelf.known({"a": 0}))

    def test_none_where_a_column_would_be_known_by_two(self):
        shelf = shelf_of(BOOK, (0, 5, 6), (1, 7, 8))
        self.assertIsNone(shelf.known({"a": 0, "b": 7}))
        self.assertIsNone(shelf.known({"a": 0, "c": 8}))
        self.assertIsNone(shelf.known({"b": 5, "c": 0}))
        self.assertEqual(shelf.known({"a": 9, "b": 5}), {"a": 9, "b": 5, "c": 6})
        # found by two ways, none of them given
        shelf = shelf_of(("abcd", (("a", "c"), ("b", "c"))), (1, 1, 1, 0), (2, 2, 2, 0))
        self.assertIsNone(shelf.known({"a": 1, "b": 2}))
        self.assertEqual(shelf.known({"a": 2, "b": 2}), {"a": 2, "b": 2, "c": 2})

    def test_a_right_with_columns_of_the_left(self):
        shelf = shelf_of(("abc", (("a", "abc"), ("c", ""))), (1, 2, 3))
        self.assertEqual(shelf.known({"a": 1}), {"a": 1, "b": 2, "c": 3})
        self.assertEqual(shelf.known({"c": 3}), {"c": 3})

    def test_what_was_told_is_the_askers_own(self):
        shelf = shelf_of(BOOK, (0, 5, 6))
        for given in [{"a": 0}, {"c": 9}, {}]:
            told, ahead = shelf.known(given), shelf.known(given)
            self.assertIsNot(told, given)
            told["a"] = 77
            told.clear()
            self.assertEqual(shelf.known(given), ahead)

    def test_by_the_book_as_it_is(self):
        shelf = shelf_of(BOOK, (0, 5, 6))
        shelf.loose(1)
        self.assertEqual(shelf.known({"a": 0}), {"a": 0, "b": 5})
        shelf.back()
        self.assertEqual(shelf.known({"a": 0}), {"a": 0, "b": 5, "c": 6})
        shelf.take((0, 5, 6))
        self.assertEqual(shelf.known({"a": 0}), {"a": 0})


class NoGivenNumbers(Same):
    def test_refused(self):
        shelf = shelf_of(BOOK, (0, 0, 0))
        things = [None, True, 0, 7, "", "a", [], ["a"], (), ("a", 0), [("a", 0)], (("a", 0),)]
        things += [{column: 0} for column in NO_COLUMNS if not isinstance(column, (list, dict))]
        things += [{"a": number} for number in NO_NUMBERS] + [{"a": 0, "b": None}, {"a": 0, "d": 0}, {"a": 0, 1: 0}]
        for thing in things:
            for word in ["having", "known"]:
                self.refuses(NoGiven, shelf, word, thing)

    def test_columns_of_another_head(self):
        shelf = shelf_of(("bdf", ()), (0, 0, 0))
        for column in ALL:
            for word in ["having", "known"]:
                if column in "bdf":
                    getattr(shelf, word)({column: LONGEST})
                else:
                    self.refuses(NoGiven, shelf, word, {column: LONGEST})


class ManyDeeds(unittest.TestCase):
    """Thrown deeds, good and bad, against a plain shelf."""

    def thrown_deed(self, thrown, head, hangings, rows):
        def one_of(things):
            return things[next(thrown) % len(things)]

        def number():
            return one_of([0, 0, 1, 1, 2, -1]) if next(thrown) % 12 else one_of([LONGEST, LONGEST + 1, True, None, "0"])

        def row():
            if rows and next(thrown) % 3 == 0:
                return one_of(rows)
            return tuple(number() for column in head[next(thrown) % 20 == 0:])

        def hanging():
            sets = sets_of(head)
            bad = [None, ("a",), ("i", ""), ["a", "b"], *hangings]
            return (one_of(sets), one_of(sets)) if next(thrown) % 8 else one_of(bad)

        word = one_of(["put", "put", "put", "take", "turn", "turn", "hang", "loose"])
        things = {"put": (row,), "take": (row,), "turn": (row, lambda: one_of([*head, *head, "i", None]), number),
                  "hang": (hanging,), "loose": (lambda: one_of([0, 1, 2, 5, 11, 12, -1, True]),)}
        return word, *[thing() for thing in things[word]]

    def asked(self, thrown, plain):
        head, rows = plain.table()
        told = next(thrown) % 10
        if told == 0:
            return ("back",)
        deeds = [self.thrown_deed(thrown, head, plain.book()[1], rows) for turn in range(1 + next(thrown) % 4)]
        if told > 2:
            return deeds[0]
        if next(thrown) % 8 == 0:
            deeds = [[], [("put",)], None, [None], tuple(deeds), [list(deeds[0])]][next(thrown) % 6]
        return "together", deeds

    def refusal(self, deed):
        try:
            self.assertIsNone(deed())
        except Refused as refused:
            return refused.args
        except TableError as error:
            fields = ["many", "most", "number", "one", "other"]
            return type(error).__name__, *[getattr(error, field) for field in fields if field in vars(error)]
        return ()

    def test_each_is_done_or_refused_as_by_the_plain_shelf(self):
        seen = set()
        for seed in range(60):
            thrown = dice(seed)
            book = made_book(1 + seed % 4, seed % 13, seed)
            shelf, plain = Shelf(book), PlainShelf(book)
            for turn in range(60):
                word, *things = self.asked(thrown, plain)
                wanted = self.refusal(lambda: plain.ask(word, *things))
                self.assertEqual(self.refusal(lambda: getattr(shelf, word)(*things)), wanted, (word, things))
                seen.add((word, *wanted[:1]))
                self.assertEqual(all_of(shelf), all_of(plain))
                self.assertIs(is_table(shelf.table()), True)
                self.assertIs(keeps(shelf.table(), shelf.book()), True)
                self.ask_both(thrown, shelf, plain)
        for word, names in [("put", ["NoRow", "There", "Broken"]), ("take", ["NoRow", "Gone"]), ("loose", ["NoNumber"]),
                            ("turn", ["NoRow", "Gone", "NoColumn", "NoNumber", "There", "Broken"]),
                            ("hang", ["NoHanging", "There", "TooMany", "Broken"]), ("back", ["NoDeed"]),
                            ("together", ["NoDeeds", "NoRow", "There", "Gone", "Broken"])]:
            self.assertGreaterEqual(seen, {(word,), *[(word, name) for name in names]})

    def ask_both(self, thrown, shelf, plain):
        given = {column: next(thrown) % 3 - 1 for column in plain.head if next(thrown) % 2}
        if plain.rows and next(thrown) % 2:
            row = sorted(plain.rows)[next(thrown) % len(plain.rows)]
            given = {column: number for column, number in zip(plain.head, row) if column in given}
        self.assertEqual(shelf.having(given), plain.having(given))
        self.assertEqual(shelf.known(given), plain.known(given))


class TwoShelves(unittest.TestCase):
    def test_in_turn(self):
        one, other = Shelf(BOOK), Shelf(BOOK)
        one.put((0, 0, 0))
        self.assertEqual(all_of(other), (("abc", ()), BOOK, 0))
        other.put((1, 1, 1))
        other.hang(("c", "a"))
        self.assertEqual(all_of(one), (("abc", ((0, 0, 0),)), BOOK, 1))
        one.back()
        self.assertEqual(other.deeds(), 2)
        self.assertEqual(other.having({}), [(1, 1, 1)])
        self.assertRaises(NoDeed, one.back)
        other.back()
        self.assertEqual(all_of(other), (("abc", ((1, 1, 1),)), BOOK, 1))
        self.assertEqual(one.known({"a": 1}), {"a": 1})

    def test_a_shelf_of_what_another_told(self):
        one = shelf_of(BOOK, (0, 0, 0))
        other = Shelf(one.book())
        one.loose(0)
        self.assertEqual(other.book(), BOOK)


if __name__ == "__main__":
    unittest.main()
