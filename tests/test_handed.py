"""Promise 2: nothing that is handed in is changed or kept, and asked the same again, the same is told."""

import copy
import unittest

from keytables.books import is_book, is_hanging
from keytables.covers import cover, follows, shut_sets
from keytables.desk import Desk
from keytables.errors import TableError
from keytables.fills import fill_of, filled, is_fill, is_whole
from keytables.joins import joined, part
from keytables.keys import is_key, is_wide, key_columns, keys, least_key, many_wide
from keytables.least import direct, idle, slimmed
from keytables.likes import alike, first_unlike
from keytables.narrow import narrowed
from keytables.papers import is_paper, paper_of, two_rows
from keytables.seen import full_table, seen
from keytables.sets import both, either, is_set, lacked, lies_in
from keytables.shelf import Shelf
from keytables.splits import fair_split, first_rough, is_fair, lost, neat_split
from keytables.stems import stem_book
from keytables.tables import agreements, first_broken, is_table, keeps
from keytables.texts import book_text, read_book, read_split, read_table, split_text, table_text
from things import ALL, BOOKS, NO_BOOKS, NO_HANGINGS, NO_SETS, NO_SPLITS_OF_BDF, NO_TABLES, TABLES

BOOK = ("abc", (("a", "b"), ("b", "c")))
TABLE = ("abc", ((0, 0, 0), (0, 1, 0), (1, 1, 1)))
HANGING = ("a", "c")
PAPER = ((("a", "b"), ("given", 0)), (("b", "c"), ("given", 1)), (HANGING, ("on", 0, 1)))
SPLIT = ("ab", "bc")
FILL = ((1, 0, 1),)
SOME = [*NO_SETS, *NO_BOOKS, *NO_HANGINGS, *NO_TABLES, *NO_SPLITS_OF_BDF, *BOOKS, *TABLES, BOOK, TABLE, HANGING, PAPER,
        SPLIT, FILL, "", "a", ALL]



def shelf():
    """A shelf with two rows."""
    told = Shelf(BOOK)
    told.put((0, 1, 2))
    told.put((1, 1, 2))
    return told


def new_shelf(book):
    told = Shelf(book)
    return told.table(), told.book(), told.deeds()


def put(row):
    return shelf().put(row)


def take(row):
    return shelf().take(row)


def turn(row, column, number):
    return shelf().turn(row, column, number)


def hang(hanging):
    return shelf().hang(hanging)


def loose(k):
    return shelf().loose(k)


def together(deeds):
    return shelf().together(deeds)


def having(given):
    return shelf().having(given)


def known(given):
    return shelf().known(given)


def say(line):
    desk = Desk()
    desk.say("book a ab: a>b")
    return desk.say(line)


# Each question with good things for its places, the refusals that it may tell, and the kinds of its answers.
QUESTIONS = [
    (is_set, ("abc",), [], [bool]),
    (both, ("abc", "bd"), ["NoSet"], [str]),
    (either, ("abc", "bd"), ["NoSet"], [str]),
    (lacked, ("abc", "bd"), ["NoSet"], [str]),
    (lies_in, ("abc", "bd"), ["NoSet"], [bool]),
    (is_book, (BOOK,), [], [bool]),
    (is_hanging, (BOOK, HANGING), ["NoBook"], [bool]),
    (follows, (BOOK, HANGING), ["NoBook", "NoHanging"], [bool]),
    (cover, (BOOK, "a"), ["NoBook", "NoSet"], [str]),
    (shut_sets, (BOOK,), ["NoBook"], [list]),
    (alike, (BOOK, BOOK), ["NoBook"], [bool]),
    (first_unlike, (BOOK, BOOK), ["NoBook", "Unlike"], [tuple, type(None)]),
    (is_paper, (BOOK, PAPER), ["NoBook"], [bool]),
    (paper_of, (BOOK, HANGING), ["NoBook", "NoHanging"], [tuple, type(None)]),
    (two_rows, (BOOK, HANGING), ["NoBook", "NoHanging"], [tuple, type(None)]),
    (is_table, (TABLE,), [], [bool]),
    (first_broken, (TABLE, HANGING), ["NoTable", "NoHanging"], [tuple, type(None)]),
    (keeps, (TABLE, BOOK), ["NoTable", "NoBook", "Unlike"], [bool]),
    (agreements, (TABLE,), ["NoTable"], [list]),
    (seen, (TABLE,), ["NoTable"], [list]),
    (full_table, (BOOK,), ["NoBook", "TooWide"], [tuple]),
    (keys, (BOOK,), ["NoBook"], [list]),
    (key_columns, (BOOK,), ["NoBook"], [str]),
    (many_wide, (BOOK,), ["NoBook"], [int]),
    (least_key, (BOOK,), ["NoBook"], [str]),
    (is_wide, (BOOK, "a"), ["NoBook", "NoSet"], [bool]),
    (is_key, (BOOK, "a"), ["NoBook", "NoSet"], [bool]),
    (idle, (BOOK,), ["NoBook"], [list]),
    (slimmed, (BOOK,), ["NoBook"], [tuple]),
    (direct, (BOOK,), ["NoBook"], [list]),
    (stem_book, (BOOK,), ["NoBook"], [tuple]),
    (narrowed, (BOOK, "ac"), ["NoBook", "NoSet"], [list]),
    (part, (TABLE, "ac"), ["NoTable", "NoSet"], [tuple]),
    (joined, (TABLE, TABLE), ["NoTable", "TooMany"], [tuple]),
    (filled, (BOOK, SPLIT), ["NoBook", "NoSplit"], [list]),
    (is_whole, (BOOK, SPLIT), ["NoBook", "NoSplit"], [bool]),
    (is_fill, (BOOK, SPLIT, FILL), ["NoBook", "NoSplit"], [bool]),
    (fill_of, (BOOK, SPLIT), ["NoBook", "NoSplit"], [tuple, type(None)]),
    (lost, (BOOK, SPLIT), ["NoBook", "NoSplit"], [list]),
    (first_rough, (BOOK, "abc"), ["NoBook", "NoSet"], [str, type(None)]),
    (is_fair, (BOOK, "abc"), ["NoBook", "NoSet"], [bool]),
    (neat_split, (BOOK,), ["NoBook"], [tuple]),
    (fair_split, (BOOK,), ["NoBook"], [tuple]),
    (new_shelf, (BOOK,), ["NoBook"], [tuple]),
    (put, ((2, 5, 5),), ["NoRow", "There", "Broken"], [type(None)]),
    (take, ((0, 1, 2),), ["NoRow", "Gone"], [type(None)]),
    (turn, ((0, 1, 2), "a", 5), ["NoRow", "Gone", "NoColumn", "NoNumber", "There", "Broken"], [type(None)]),
    (hang, (("c", "b"),), ["NoHanging", "There", "Broken"], [type(None)]),
    (loose, (1,), ["NoNumber"], [type(None)]),
    (together, ([("put", (2, 5, 5))],), ["NoDeeds"], [type(None)]),
    (having, ({"b": 1},), ["NoGiven"], [list]),
    (known, ({"b": 1},), ["NoGiven"], [dict, type(None)]),
    (book_text, (BOOK,), ["NoBook"], [str]),
    (table_text, (TABLE,), ["NoTable"], [str]),
    (split_text, (BOOK, SPLIT), ["NoBook", "NoSplit"], [str]),
    (read_book, ("ab: a>b",), ["NoText"], [tuple]),
    (read_table, ("ab: 1,2",), ["NoText"], [tuple]),
    (read_split, (BOOK, "ab/bc"), ["NoBook", "NoText"], [tuple]),
    (say, ("put a 1,2",), ["NoLine"], [str]),
]


def asks():
    """Each question with good and bad things in each of its places."""
    for question, good, refusals, kinds in QUESTIONS:
        yield question, good
        for thing in SOME:
            yield question, (thing,) * len(good)
            for at in range(len(good)):
                yield question, (*good[:at], thing, *good[at + 1:])


def answer(question, things):
    """What is told, or the name of the refusal, with its kind: True is no 1 here."""
    try:
        told = question(*things)
    except TableError as error:
        return "refused", type(error).__name__
    return "told", type(told).__name__, told


class HandedIn(unittest.TestCase):
    def test_it_is_the_same_behind_the_call_as_ahead_of_it(self):
        for question, things in asks():
            handed = copy.deepcopy(things)
            ahead = repr(handed)
            answer(question, handed)
            self.assertEqual(repr(handed), ahead, question.__name__)

    def test_asked_again_the_same_is_told(self):
        first = [answer(question, things) for question, things in asks()]
        again = [answer(question, copy.deepcopy(things)) for question, things in asks()]
        self.assertEqual(again, first)

    def test_a_thing_that_was_changed_later_is_looked_at_anew(self):
        hangings = [("a", "b")]
        self.assertIs(is_book(("ab", hangings)), False)
        self.assertIs(is_book(("ab", tuple(hangings))), True)
        hangings.append(("a", "b"))
        self.assertIs(is_book(("ab", tuple(hangings))), False)

    def test_nothing_but_the_refusals_told_is_raised(self):
        refusals = {question: names for question, good, names, kinds in QUESTIONS}
        for question, things in asks():
            told = answer(question, things)
            if told[0] == "refused":
                self.assertIn(told[1], refusals[question], things)

    def test_answers_are_of_the_kinds_that_the_interface_lists(self):
        wanted = {question: kinds for question, good, names, kinds in QUESTIONS}
        for question, things in asks():
            told = answer(question, things)
            if told[0] == "told":
                self.assertIn(type(told[2]), wanted[question], question.__name__)

    def test_good_things_are_not_refused(self):
        for question, good, names, kinds in QUESTIONS:
            self.assertEqual(answer(question, good)[0], "told", question.__name__)


class Told(unittest.TestCase):
    def test_a_told_list_is_the_askers_own(self):
        for question, good, names, kinds in QUESTIONS:
            told = question(*good)
            if isinstance(told, list):
                with self.subTest(question=question.__name__):
                    ahead = list(told)
                    self.assertIsNot(question(*good), told)
                    told.reverse()
                    told.append(None)
                    self.assertEqual(question(*good), ahead)

    def test_what_is_told_in_tuples_has_no_list_or_dict_in_it(self):
        for question, good, names, kinds in QUESTIONS:
            parts = [question(*good)]
            while parts:
                part = parts.pop()
                if isinstance(part, tuple):
                    parts.extend(part)
                    self.assertFalse([one for one in part if isinstance(one, (list, dict))], question.__name__)


if __name__ == "__main__":
    unittest.main()
