"""Promise 10: sets."""

import itertools
import unittest

from keytables.errors import NoSet
from keytables.sets import both, either, is_set, lacked, lies_in
from things import ALL, NO_SETS

SETS = ["".join(columns) for many in range(9) for columns in itertools.combinations(ALL, many)]
QUESTIONS = [both, either, lacked, lies_in]


def text_of(columns):
    return "".join(sorted(columns))


class IsSet(unittest.TestCase):
    def test_sets(self):
        self.assertEqual(len(SETS), 256)
        for thing in SETS:
            with self.subTest(thing=thing):
                self.assertIs(is_set(thing), True)

    def test_the_least_and_the_greatest(self):
        for thing in ["", "a", "h", "ah", "bdf", "abcdefgh"]:
            with self.subTest(thing=thing):
                self.assertIs(is_set(thing), True)

    def test_what_is_no_set(self):
        for thing in NO_SETS:
            with self.subTest(thing=thing):
                self.assertIs(is_set(thing), False)

    def test_a_text_of_one_sign_is_a_set_just_where_it_is_a_column(self):
        for sign in ["\t", "\n", *map(chr, range(32, 127))]:
            with self.subTest(sign=sign):
                self.assertIs(is_set(sign), sign in list(ALL))

    def test_all_orders_and_repeats_of_a_few_signs(self):
        for many in range(5):
            for signs in itertools.product("ahi A", repeat=many):
                text = "".join(signs)
                self.assertIs(is_set(text), text in ["", "a", "h", "ah"], text)


class TwoSets(unittest.TestCase):
    def test_nothing_in_common(self):
        self.assertEqual(both("ac", "bd"), "")
        self.assertEqual(either("ac", "bd"), "abcd")
        self.assertEqual(either("bd", "ac"), "abcd")
        self.assertEqual(lacked("ac", "bd"), "ac")
        self.assertEqual(lacked("bd", "ac"), "bd")
        self.assertIs(lies_in("ac", "bd"), False)

    def test_some_in_common(self):
        self.assertEqual(both("abd", "bch"), "b")
        self.assertEqual(either("abd", "bch"), "abcdh")
        self.assertEqual(lacked("abd", "bch"), "ad")
        self.assertEqual(lacked("bch", "abd"), "ch")
        self.assertIs(lies_in("abd", "bch"), False)
        self.assertIs(lies_in("bch", "abd"), False)

    def test_one_in_the_other(self):
        self.assertEqual(both("ac", "abcd"), "ac")
        self.assertEqual(lacked("ac", "abcd"), "")
        self.assertEqual(lacked("abcd", "ac"), "bd")
        self.assertIs(lies_in("ac", "abcd"), True)
        self.assertIs(lies_in("abcd", "ac"), False)

    def test_columns_need_not_stand_side_by_side_in_the_second(self):
        self.assertIs(lies_in("ad", "abcd"), True)
        self.assertEqual(both("ad", "abcd"), "ad")

    def test_none_and_all(self):
        self.assertEqual([both("", ALL), either("", ALL), lacked("", ALL), lacked(ALL, "")], ["", ALL, "", ALL])
        self.assertIs(lies_in("", ALL), True)
        self.assertIs(lies_in(ALL, ""), False)
        self.assertIs(lies_in("", ""), True)
        self.assertIs(lies_in(ALL, ALL), True)

    def test_all_pairs_of_sets(self):
        for one, other in itertools.product(SETS, SETS):
            left, right = set(one), set(other)
            told = (both(one, other), either(one, other), lacked(one, other))
            self.assertEqual(told, (text_of(left & right), text_of(left | right), text_of(left - right)))
            self.assertIs(lies_in(one, other), left <= right)

    def test_sets_are_told_as_texts(self):
        for question in [both, either, lacked]:
            for one, other in [("", ""), ("a", "b"), ("abc", "bcd"), (ALL, "")]:
                with self.subTest(question=question.__name__, one=one, other=other):
                    self.assertIs(type(question(one, other)), str)
                    self.assertIs(is_set(question(one, other)), True)


class NoSetTold(unittest.TestCase):
    def assert_refused(self, one, other):
        for question in QUESTIONS:
            with self.subTest(question=question.__name__, one=one, other=other):
                self.assertRaises(NoSet, question, one, other)

    def test_of_the_first(self):
        for thing, good in itertools.product(NO_SETS, ["", "a", ALL]):
            self.assert_refused(thing, good)

    def test_of_the_second(self):
        for thing, good in itertools.product(NO_SETS, ["", "a", ALL]):
            self.assert_refused(good, thing)

    def test_of_both(self):
        for thing in NO_SETS:
            self.assert_refused(thing, thing)
            self.assert_refused(thing, None)
            self.assert_refused("ba", thing)


if __name__ == "__main__":
    unittest.main()
