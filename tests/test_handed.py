"""Promise 2: nothing that is handed in is changed or kept, and asked the same again, the same is told."""

import copy
import itertools
import unittest

from keytables.books import is_book, is_hanging
from keytables.errors import TableError
from keytables.sets import both, either, is_set, lacked, lies_in
from things import ALL, BOOKS, NO_BOOKS, NO_HANGINGS, NO_SETS

SOME = [*NO_SETS, *NO_BOOKS, *NO_HANGINGS, *BOOKS, "", "a", ALL]
ONES = [is_set, is_book]
PAIRS = [(both, "abc"), (either, "abc"), (lacked, "abc"), (lies_in, "abc"), (is_hanging, ("abc", (("a", "b"),)))]


def asks():
    """Each question of stage 1 with good and bad things in each of its places."""
    for question, thing in itertools.product(ONES, SOME):
        yield question, (thing,)
    for (question, good), thing in itertools.product(PAIRS, SOME):
        yield question, (good, thing)
        yield question, (thing, good)
        yield question, (thing, thing)


def answer(question, things):
    """What is told, or the name of the refusal, with its kind: True is no 1 here."""
    try:
        told = question(*things)
    except TableError as error:
        return "refused", type(error).__name__
    return "told", type(told).__name__, told


class HandedIn(unittest.TestCase):
    def test_it_is_the_same_behind_the_call_as_ahead_of_it(self):
        for question, things in asks():
            handed = copy.deepcopy(things)
            ahead = repr(handed)
            answer(question, handed)
            self.assertEqual(repr(handed), ahead, question.__name__)

    def test_asked_again_the_same_is_told(self):
        first = [answer(question, things) for question, things in asks()]
        again = [answer(question, copy.deepcopy(things)) for question, things in asks()]
        self.assertEqual(again, first)

    def test_a_thing_that_was_changed_later_is_looked_at_anew(self):
        hangings = [("a", "b")]
        self.assertIs(is_book(("ab", hangings)), False)
        self.assertIs(is_book(("ab", tuple(hangings))), True)
        hangings.append(("a", "b"))
        self.assertIs(is_book(("ab", tuple(hangings))), False)

    def test_nothing_but_the_refusals_told_is_raised(self):
        refusals = {both: "NoSet", either: "NoSet", lacked: "NoSet", lies_in: "NoSet", is_hanging: "NoBook"}
        for question, things in asks():
            told = answer(question, things)
            if told[0] == "refused":
                self.assertEqual(told[1], refusals[question], things)


if __name__ == "__main__":
    unittest.main()
