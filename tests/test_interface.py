"""The interface: all its names with their arguments, and at each place the refusal that is due there first."""

import inspect
import itertools
import unittest

from keytables import (books, covers, desk, fills, joins, keys, least, likes, narrow, papers, seen, sets, shelf, splits,
                       stems, tables, texts)
from keytables.errors import TableError

BOOK = ("abc", (("a", "b"), ("b", "c")))
TABLE = ("abc", ((0, 0, 0), (0, 1, 0), (1, 1, 1)))
SPLIT = ("ab", "bc")

# A good thing of each kind of place; anything that is none is refused so, None where anything may stand there.
GOOD = {"thing": 7, "one": "ab", "other": "bc", "book": BOOK, "hanging": ("a", "c"), "some": "ab", "table": TABLE,
        "split": SPLIT, "text": "ab:"}
REFUSED = {"thing": None, "one": "NoSet", "other": "NoSet", "book": "NoBook", "hanging": "NoHanging", "some": "NoSet",
           "table": "NoTable", "split": "NoSplit", "text": "NoText"}

INTERFACE = {
    sets: ["is_set(thing)", "both(one, other)", "either(one, other)", "lacked(one, other)", "lies_in(one, other)"],
    books: ["is_book(thing)", "is_hanging(book, thing)"],
    covers: ["follows(book, hanging)", "cover(book, some)", "shut_sets(book)"],
    likes: ["alike(book, other)", "first_unlike(book, other)"],
    papers: ["is_paper(book, thing)", "paper_of(book, hanging)", "two_rows(book, hanging)"],
    tables: ["is_table(thing)", "first_broken(table, hanging)", "keeps(table, book)", "agreements(table)"],
    seen: ["seen(table)", "full_table(book)"],
    keys: ["keys(book)", "key_columns(book)", "many_wide(book)", "least_key(book)", "is_wide(book, some)",
           "is_key(book, some)"],
    least: ["idle(book)", "slimmed(book)", "direct(book)"],
    stems: ["stem_book(book)"],
    narrow: ["narrowed(book, some)"],
    joins: ["part(table, some)", "joined(table, other)"],
    fills: ["filled(book, split)", "is_whole(book, split)", "is_fill(book, split, thing)", "fill_of(book, split)"],
    splits: ["lost(book, split)", "first_rough(book, some)", "is_fair(book, some)", "neat_split(book)",
             "fair_split(book)"],
    shelf: ["Shelf(book)"],
    texts: ["book_text(book)", "table_text(table)", "split_text(book, split)", "read_book(text)", "read_table(text)",
            "read_split(book, text)"],
    desk: ["Desk()"],
}
METHODS = {
    shelf.Shelf: ["put(self, row)", "take(self, row)", "turn(self, row, column, number)", "hang(self, hanging)",
                  "loose(self, k)", "together(self, deeds)", "back(self)", "table(self)", "book(self)", "deeds(self)",
                  "having(self, given)", "known(self, given)"],
    desk.Desk: ["say(self, line)"],
}
# What is none of anything that may be wanted.
BAD = [None, True, 7, [], ["a"], {}, {"a": 1}, (), (None,), ("a", None), [[["a"]]], "i", "ba"]


def functions():
    """Each function with its places: their names, as the interface has them, and the refusals due there."""
    for module, lines in INTERFACE.items():
        for line in lines:
            name, rest = line.rstrip(")").split("(")
            places = rest.split(", ") if rest else []
            refused = [REFUSED[place] for place in places]
            good = [GOOD[place] for place in places]
            if places[1:] == ["other"] and places[0] != "one":
                refused[1], good[1] = refused[0], good[0]
            if name == "read_split":
                good[1] = "ab/bc"
            yield getattr(module, name), places, good, refused


def refusal(question, things):
    try:
        question(*things)
    except TableError as error:
        return type(error).__name__
    return None


class Interface(unittest.TestCase):
    def test_names_and_arguments(self):
        for question, places, good, refused in functions():
            self.assertEqual(list(inspect.signature(question).parameters), places, question)

    def test_methods_stand_in_the_classes_themselves(self):
        for owner, lines in METHODS.items():
            for line in lines:
                name, rest = line.rstrip(")").split("(")
                self.assertIn(name, vars(owner))
                self.assertEqual(list(inspect.signature(vars(owner)[name]).parameters), rest.split(", "))

    def test_good_things_are_not_refused(self):
        for question, places, good, refused in functions():
            self.assertIsNone(refusal(question, good), question)

    def test_each_place_refuses(self):
        for question, places, good, refused in functions():
            for at, bad in itertools.product(range(len(places)), BAD):
                things = [*good[:at], bad, *good[at + 1:]]
                self.assertEqual(refusal(question, things), refused[at], (question, things))

    def test_the_place_further_to_the_left_is_looked_at_first(self):
        for question, places, good, refused in functions():
            for one, other in itertools.combinations(range(len(places)), 2):
                for bad, worse in itertools.product(BAD, repeat=2):
                    things = list(good)
                    things[one], things[other] = bad, worse
                    due = [name for name in [refused[one], refused[other]] if name is not None]
                    self.assertEqual(refusal(question, things), (due or [None])[0], (question, things))

    def test_what_was_told_may_be_handed_in_again(self):
        told = stems.stem_book(least.slimmed(BOOK))
        self.assertIs(likes.alike(told, BOOK), True)
        self.assertIs(fills.is_whole(told, splits.neat_split(told)), True)
        self.assertEqual(splits.lost(told, splits.fair_split(told)), [])
        table = seen.full_table(told)
        self.assertIs(tables.keeps(table, told), True)
        self.assertEqual(joins.joined(joins.part(table, "ab"), joins.part(table, "bc")), table)
        self.assertEqual(texts.read_table(texts.table_text(table)), table)
        self.assertEqual(texts.read_book(texts.book_text(told)), told)
        kept = shelf.Shelf(told)
        kept.together([("put", row) for row in table[1]])
        self.assertEqual(kept.table(), table)
        for some in keys.keys(kept.book()):
            for row in kept.having({}):
                given = {column: number for column, number in zip("abc", row) if column in some}
                self.assertEqual(kept.known(given), dict(zip("abc", row)))


if __name__ == "__main__":
    unittest.main()
