"""Promise 11: heads, hangings, books."""

import itertools
import unittest

from keytables.books import is_book, is_hanging
from keytables.errors import NoBook
from things import ALL, BOOKS, NO_BOOKS, NO_HANGINGS, NO_SETS, twelve_hangings


class IsBook(unittest.TestCase):
    def test_books(self):
        for thing in BOOKS:
            with self.subTest(thing=thing):
                self.assertIs(is_book(thing), True)

    def test_what_is_no_book(self):
        for thing in NO_BOOKS:
            with self.subTest(thing=thing):
                self.assertIs(is_book(thing), False)

    def test_each_column_and_all_of_them_are_a_head(self):
        for head in [*ALL, ALL]:
            with self.subTest(head=head):
                self.assertIs(is_book((head, ())), True)
                self.assertIs(is_book((head, ((head, ""),))), True)

    def test_what_is_no_set_is_no_head(self):
        for head in NO_SETS:
            with self.subTest(head=head):
                self.assertIs(is_book((head, ())), False)

    def test_what_is_no_set_is_no_side(self):
        for side in NO_SETS:
            with self.subTest(side=side):
                self.assertIs(is_book((ALL, ((side, "a"),))), False)
                self.assertIs(is_book((ALL, (("a", side),))), False)

    def test_what_is_no_hanging_stands_in_no_book(self):
        for thing in NO_HANGINGS:
            with self.subTest(thing=thing):
                self.assertIs(is_book((ALL, (thing,))), False)
                self.assertIs(is_book((ALL, (("", "a"), thing))), False)
                self.assertIs(is_book((ALL, (thing, ("h", "a")))), False)

    def test_a_side_that_the_head_lacks(self):
        for hanging in [("c", "a"), ("a", "c"), ("abc", ""), ("", "abc"), ("h", "h")]:
            with self.subTest(hanging=hanging):
                self.assertIs(is_book(("ab", (hanging,))), False)
                self.assertIs(is_book(("ab", (("", "a"), hanging))), False)
                self.assertIs(is_book(("abch", (hanging,))), True)

    def test_how_many_hangings(self):
        hangings = twelve_hangings() + (("abcd", "a"),)
        for many in range(14):
            with self.subTest(many=many):
                self.assertIs(is_book(("abcd", hangings[:many])), many <= 12)

    def test_only_the_rising_order_is_a_book(self):
        rising = (("", "b"), ("a", ""), ("a", "b"), ("ab", "a"), ("b", ""))
        for order in itertools.permutations(rising):
            with self.subTest(order=order):
                self.assertIs(is_book(("ab", order)), order == rising)

    def test_one_hanging_twice(self):
        for at in range(3):
            hangings = [("", "b"), ("a", "b"), ("b", "a")]
            hangings.insert(at, hangings[at])
            with self.subTest(at=at):
                self.assertIs(is_book(("ab", tuple(hangings))), False)


class IsHanging(unittest.TestCase):
    def test_hangings(self):
        for head, hangings in BOOKS:
            sides = ["", head[0], head[-1], head]
            for left, right in itertools.product(sides, sides):
                with self.subTest(head=head, left=left, right=right):
                    self.assertIs(is_hanging((head, hangings), (left, right)), True)

    def test_a_hanging_need_not_be_one_of_the_book(self):
        book = ("abc", (("a", "b"),))
        self.assertIs(is_hanging(book, ("a", "b")), True)
        self.assertIs(is_hanging(book, ("c", "ab")), True)
        self.assertIs(is_hanging(book, ("", "")), True)

    def test_sides_with_columns_that_the_head_lacks(self):
        book = ("bd", (("b", "d"),))
        for thing in [("a", "b"), ("b", "a"), ("bcd", "b"), ("b", "bcd"), ("c", "c"), ("", "h"), ("h", "")]:
            with self.subTest(thing=thing):
                self.assertIs(is_hanging(book, thing), False)

    def test_what_is_no_hanging(self):
        for book, thing in itertools.product(BOOKS, NO_HANGINGS):
            with self.subTest(book=book, thing=thing):
                self.assertIs(is_hanging(book, thing), False)

    def test_a_book_is_no_hanging(self):
        for book in BOOKS:
            with self.subTest(book=book):
                self.assertIs(is_hanging(book, book), False)

    def test_no_book_whatever_stands_beside_it(self):
        beside = [("", ""), ("a", "a"), ("a", "b"), None, 7, True, "", "a", [], ("a",), ("ba", "a"), {}, ("a", ())]
        for thing, other in itertools.product(NO_BOOKS, beside):
            with self.subTest(thing=thing, other=other):
                self.assertRaises(NoBook, is_hanging, thing, other)


if __name__ == "__main__":
    unittest.main()
