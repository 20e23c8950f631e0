"""Promises 101 and 102: a desk, its lines, and what it refuses."""

import itertools
import unittest

from keytables.desk import Desk
from keytables.errors import (Broken, Gone, NoColumn, NoDeed, NoLine, NoName, NoNumber, NoText, TableError, There,
                              TooMany)
from plain_desk import LINES, PlainDesk
from plain_shelf import Refused
from plainly import dice
from things import LONGEST, NO_TEXTS

# A good line of each kind for a shelf that was made by BEGIN, and its answer.
BEGIN = ["book ab abc: a>b b>c", "put ab 0,0,0", "put ab 1,5,6"]
ANSWERS = {
    "names": "ab",
    "book ab a:": "ok",
    "copy ab cd": "ok",
    "put ab 2,5,6": "ok",
    "take ab 1,5,6": "ok",
    "turn ab 1,5,6 c 7": "ok",
    "hang ab c>b": "ok",
    "loose ab 0": "ok",
    "back ab": "ok",
    "show ab": "abc: 0,0,0 1,5,6",
    "rules ab": "abc: a>b b>c",
    "cover ab a": "abc",
    "follows ab a>c": "yes",
    "keys ab": "a",
    "stems ab": "abc: a>abc b>bc",
    "whole ab ab/bc": "yes",
    "lost ab ab/ac": "1",
}


def desk_with(*lines):
    desk = Desk()
    for line in lines:
        desk.say(line)
    return desk


def all_of(desk):
    """The tables and books of all shelves of a desk."""
    names = desk.say("names").split()
    return [(name, desk.say("show " + name), desk.say("rules " + name)) for name in names]


class Same(unittest.TestCase):
    def refuses(self, kind, desk, line):
        ahead = all_of(desk)
        with self.assertRaises(TableError) as caught:
            desk.say(line)
        self.assertIs(type(caught.exception), kind, line)
        self.assertEqual(all_of(desk), ahead)
        return caught.exception

    def says(self, desk, line, wanted):
        told = desk.say(line)
        self.assertIs(type(told), str)
        self.assertEqual(told, wanted, line)


class Answers(Same):
    def test_each_line(self):
        self.assertEqual({line.split()[0] for line in ANSWERS}, {line.split()[0] for line in LINES})
        for line, answer in ANSWERS.items():
            self.says(desk_with(*BEGIN), line, answer)

    def test_names(self):
        desk = Desk()
        self.says(desk, "names", "")
        for name in ["b", "zz", "a", "abcdefgh", "ab"]:
            self.says(desk, f"book {name} a:", "ok")
        self.says(desk, "names", "a ab abcdefgh b zz")

    def test_book(self):
        desk = Desk()
        self.says(desk, "book x abc: ->a ab>c", "ok")
        self.says(desk, "rules x", "abc: ->a ab>c")
        self.says(desk, "show x", "abc:")
        self.says(desk, "book x h:", "ok")
        self.says(desk, "rules x", "h:")

    def test_a_new_shelf_in_the_stead_of_an_elder_one(self):
        desk = desk_with(*BEGIN)
        self.says(desk, "book ab abc: a>b", "ok")
        self.says(desk, "show ab", "abc:")
        self.says(desk, "names", "ab")
        self.refuses(NoDeed, desk, "back ab")

    def test_deeds_and_what_is_shown_behind_them(self):
        desk = desk_with(*BEGIN)
        for line, table in [("put ab 2,5,6", "abc: 0,0,0 1,5,6 2,5,6"), ("take ab 0,0,0", "abc: 1,5,6 2,5,6"),
                            ("turn ab 1,5,6 a -4", "abc: -4,5,6 2,5,6"), ("back ab", "abc: 1,5,6 2,5,6"),
                            ("back ab", "abc: 0,0,0 1,5,6 2,5,6"), ("back ab", "abc: 0,0,0 1,5,6"),
                            ("back ab", "abc: 0,0,0"), ("back ab", "abc:")]:
            self.says(desk, line, "ok")
            self.says(desk, "show ab", table)
        self.refuses(NoDeed, desk, "back ab")
        for line, book in [("hang ab ->c", "abc: ->c a>b b>c"), ("loose ab 1", "abc: ->c b>c"),
                           ("hang ab abc>-", "abc: ->c abc>- b>c"), ("back ab", "abc: ->c b>c")]:
            self.says(desk, line, "ok")
            self.says(desk, "rules ab", book)

    def test_numbers_of_thirty_figures(self):
        desk = desk_with("book x ab:")
        self.says(desk, f"put x {LONGEST},{-LONGEST}", "ok")
        self.says(desk, "show x", f"ab: {LONGEST},{-LONGEST}")
        self.says(desk, f"turn x {LONGEST},{-LONGEST} a {-LONGEST}", "ok")
        self.says(desk, "show x", f"ab: {-LONGEST},{-LONGEST}")

    def test_covers(self):
        desk = desk_with("book x abcd: a>b b>c", "book y abc: ->a")
        for line, answer in [("cover x -", "-"), ("cover x a", "abc"), ("cover x d", "d"), ("cover x abcd", "abcd"),
                             ("cover y -", "a"), ("cover y b", "ab")]:
            self.says(desk, line, answer)

    def test_what_follows(self):
        desk = desk_with("book x abcd: a>b b>c")
        for line, answer in [("follows x a>c", "yes"), ("follows x c>a", "no"), ("follows x ->-", "yes"),
                             ("follows x ->a", "no"), ("follows x d>-", "yes"), ("follows x ad>abcd", "yes")]:
            self.says(desk, line, answer)
        desk.say("loose x 1")
        self.says(desk, "follows x a>c", "no")

    def test_keys_and_stems(self):
        desk = desk_with("book x abcd: ab>c c>ab", "book y ab: ->ab", "book z ab:")
        self.says(desk, "keys x", "abd cd")
        self.says(desk, "keys y", "-")
        self.says(desk, "keys z", "ab")
        self.says(desk, "stems x", "abcd: ab>abc c>abc")
        self.says(desk, "stems y", "ab: ->ab")
        self.says(desk, "stems z", "ab:")

    def test_splits(self):
        desk = desk_with("book x abc: a>b b>c", "book y abc:")
        for line, answer in [("whole x ab/bc", "yes"), ("whole x ac/bc", "no"), ("whole x abc", "yes"),
                             ("lost x ab/bc", ""), ("lost x ab/ac", "1"), ("lost x a/b/c", "0 1"), ("lost x abc", ""),
                             ("lost y a/b/c", ""), ("whole y ab/bc", "no")]:
            self.says(desk, line, answer)

    def test_copy(self):
        desk = desk_with(*BEGIN)
        self.says(desk, "copy ab cd", "ok")
        self.says(desk, "names", "ab cd")
        self.says(desk, "show cd", "abc: 0,0,0 1,5,6")
        self.says(desk, "rules cd", "abc: a>b b>c")
        self.refuses(NoDeed, desk, "back cd")
        desk.say("take cd 0,0,0")
        desk.say("loose cd 0")
        self.says(desk, "show ab", "abc: 0,0,0 1,5,6")
        self.says(desk, "rules ab", "abc: a>b b>c")
        self.says(desk, "back ab", "ok")
        self.says(desk, "show cd", "abc: 1,5,6")

    def test_copy_onto_itself_and_onto_another(self):
        desk = desk_with(*BEGIN, "book cd h:", "put cd 7")
        self.says(desk, "copy ab ab", "ok")
        self.says(desk, "show ab", "abc: 0,0,0 1,5,6")
        self.refuses(NoDeed, desk, "back ab")
        self.says(desk, "copy ab cd", "ok")
        self.says(desk, "show cd", "abc: 0,0,0 1,5,6")
        self.refuses(NoDeed, desk, "back cd")
        self.says(desk, "names", "ab cd")

    def test_a_copy_keeps_the_book(self):
        desk = desk_with(*BEGIN, "copy ab cd")
        error = self.refuses(Broken, desk, "put cd 1,7,7")
        self.assertEqual((error.number, error.one, error.other), (0, (1, 5, 6), (1, 7, 7)))


class NoSuchLine(Same):
    def test_no_text(self):
        for thing in NO_TEXTS:
            self.refuses(NoLine, desk_with(*BEGIN), thing)

    def test_another_word_ahead(self):
        desk = desk_with(*BEGIN)
        for line in ["", " ", "Names", "NAMES", "name", "namess", "say ab", "Put ab 2,5,6", "together ab", "having ab",
                     "known ab", "deeds ab", "table ab", "0", "ab", "put", "names\n", "names\t", "\nnames", "help",
                     "ok"]:
            self.refuses(NoLine, desk, line)

    def test_a_word_more_and_a_word_fewer(self):
        for line in ANSWERS:
            desk = desk_with(*BEGIN)
            words = line.split(" ")
            if words[0] != "book":
                self.refuses(NoLine, desk, line + " ab")
                self.refuses(NoLine, desk, line + " 1")
            if len(words) > 1 and words[0] != "book":
                self.refuses(NoLine, desk, " ".join(words[:-1]))
        self.refuses(NoLine, desk_with(*BEGIN), "book ab")
        self.refuses(NoLine, desk_with(*BEGIN), "book")
        self.refuses(NoText, desk_with(*BEGIN), "book ab a: b")

    def test_blanks(self):
        for line in ANSWERS:
            desk = desk_with(*BEGIN)
            self.refuses(NoLine, desk, " " + line)
            if not line.startswith("book"):
                self.refuses(NoLine, desk, line + " ")
                self.refuses(NoLine, desk, line + "  ")
            for at, word in enumerate(line.split(" ")[1:]):
                if at == 0 or not line.startswith("book"):
                    words = line.split(" ")
                    words.insert(at + 1, "")
                    self.refuses(NoLine, desk, " ".join(words))
            # a tab or a line end parts no words
            for sign in "\t\n":
                if " " in line:
                    self.refuses(NoLine, desk, line.replace(" ", sign, 1))

    def test_names_that_are_none(self):
        desk = desk_with(*BEGIN)
        for name in ["", "A", "Ab", "aB", "abcdefghi", "abcdefghijkl", "a1", "1", "a-b", "a_b", "-", ",", "a\t", "a\n",
                     "~", "a."]:
            for line in ANSWERS:
                if line != "names":
                    self.refuses(NoLine, desk, line.replace(" ab", " " + name, 1))
            self.refuses(NoLine, desk, f"copy ab {name}")
            self.refuses(NoLine, desk, f"copy {name} ab")

    def test_names_of_one_and_eight_letters(self):
        desk = Desk()
        for name in ["a", "z", "abcdefgh", "zzzzzzzz", "book", "names", "put", "ok"]:
            self.says(desk, f"book {name} a: ->a", "ok")
            self.says(desk, f"rules {name}", "a: ->a")
            self.says(desk, f"copy {name} {name[::-1]}", "ok")

    def test_numbers_that_are_none(self):
        desk = desk_with(*BEGIN)
        for word in ["", "a", "-", "+1", "+0", "-0", "00", "01", "-01", "1.0", "1_0", "1,2", "--1", "1-", "0x1",
                     "1e3", "\t1",
                     "1\n", str(LONGEST + 1), str(-LONGEST - 1), "0" * 31, "9" * 300]:
            self.refuses(NoLine, desk, f"loose ab {word}")
            self.refuses(NoLine, desk, f"turn ab 1,5,6 c {word}")
        for word in ["0", "-1", "7", "10", str(LONGEST), str(-LONGEST)]:
            self.says(desk, f"turn ab 1,5,6 c {word}", "ok")
            self.says(desk, "back ab", "ok")
        for word in ["-1", "2", str(LONGEST), str(-LONGEST)]:
            self.refuses(NoNumber, desk, f"loose ab {word}")


class NoSuchName(Same):
    def test_each_line(self):
        desk = desk_with(*BEGIN)
        for line in ANSWERS:
            if line.split()[0] not in ["names", "book"]:
                self.refuses(NoName, desk, line.replace(" ab", " cd", 1))
                self.refuses(NoName, desk, line.replace(" ab", " a", 1))
                self.refuses(NoName, Desk(), line)

    def test_behind_no_line(self):
        desk = desk_with(*BEGIN)
        for line in ["loose cd x", "loose cd 01", "turn cd 0,0,0 a x", "turn cd 0,0,0 a", "put cd", "put cd 1 1",
                     "copy cd AB", "show cd ab", "show CD", "names cd"]:
            self.refuses(NoLine, desk, line)

    def test_ahead_of_no_text(self):
        desk = desk_with(*BEGIN)
        for line in ["put cd x", "put cd ", "turn cd x y 1", "cover cd x", "cover cd ", "whole cd ", "follows cd >"]:
            self.refuses(NoName, desk, line)


class NoSuchText(Same):
    def test_books(self):
        desk = desk_with(*BEGIN)
        for text in ["", " ", "a", "ab: ", "ab:  a>b", " ab:", "ab: a>b ", "ab: b>a a>b", "ab: a>c", "ab: 0,0",
                     "ab:\n", "-:",
                     "book ab a:", "i:"]:
            self.refuses(NoText, desk, "book ab " + text)
            self.refuses(NoText, desk, "book cd " + text)
        self.says(desk, "names", "ab")

    def test_rows(self):
        desk = desk_with(*BEGIN)
        for word in ["", "-", "0", "0,0", "0,0,0,0", "0,0,", ",0,0", "0,,0", "0,0,a", "00,0,0", "-0,0,0", "+1,0,0",
                     "0;0;0",
                     "0,0,0,", "abc", f"{LONGEST + 1},0,0", f"0,0,{-LONGEST - 1}", "0,\t0,0", "0,0,0\n", "(0,0,0)"]:
            for line in [f"put ab {word}", f"take ab {word}", f"turn ab {word} a 1"]:
                self.refuses(NoText, desk, line)

    def test_sets_hangings_and_splits(self):
        desk = desk_with("book ab bdf: b>d", "put ab 0,0,0")
        for word in ["", "--", "a", "ab", "db", "bb", "B", "b,d", "bdfh", "b>d", "b/d", "0", "b\n", "\tb"]:
            self.refuses(NoText, desk, f"cover ab {word}")
        for word in ["", "-", "b", ">", "b>", ">b", "b>d>f", "b>>d", "a>b", "b>a", "db>f", "b>fd", "b->d", "-",
                     "b>d\n", "B>d",
                     "b<d", "b>d,f"]:
            self.refuses(NoText, desk, f"hang ab {word}")
            self.refuses(NoText, desk, f"follows ab {word}")
        for word in ["", "-", "b", "b/d", "bd/", "/bdf", "b//df", "-/bdf", "df/b", "bdf/bdf", "abdf", "a/bdf", "b,d,f",
                     "BDF", "bdf\n"]:
            self.refuses(NoText, desk, f"whole ab {word}")
            self.refuses(NoText, desk, f"lost ab {word}")

    def test_columns(self):
        desk = desk_with("book ab bdf: b>d", "put ab 0,0,0")
        for word in ["", "a", "c", "h", "bd", "B", "1", "-", "b\n", "i"]:
            self.refuses(NoColumn, desk, f"turn ab 0,0,0 {word} 1")

    def test_from_left_to_right(self):
        desk = desk_with(*BEGIN)
        self.refuses(NoText, desk, "turn ab 0,0 z 1")
        self.refuses(NoText, desk, "turn ab   1")
        self.refuses(NoColumn, desk, "turn ab 9,9,9 z 1")
        self.refuses(NoColumn, desk, "turn ab 0,0,0  0")
        self.refuses(NoLine, desk, "turn ab 0,0 z x")


class WhatTheShelfRefuses(Same):
    def test_deeds(self):
        desk = desk_with(*BEGIN)
        for line, kind in [("put ab 0,0,0", There), ("put ab 1,6,6", Broken), ("take ab 9,9,9", Gone),
                           ("turn ab 9,9,9 a 1", Gone), ("turn ab 0,0,0 a 0", There), ("turn ab 0,0,0 a 1", Broken),
                           ("hang ab a>b", There), ("hang ab ->a", Broken), ("loose ab 2", NoNumber),
                           ("loose ab -1", NoNumber)]:
            self.refuses(kind, desk, line)

    def test_fields(self):
        desk = desk_with("book x a:", *[f"put x {number}" for number in range(80)])
        error = self.refuses(TooMany, desk, "put x 80")
        self.assertEqual((error.many, error.most), (81, 80))
        hangings = "->a ->ab ->abc ->abcd ->abd ->ac ->acd ->ad ->b ->bc ->bcd ->bd"
        error = self.refuses(TooMany, desk_with("book y abcd: " + hangings), "hang y a>a")
        self.assertEqual((error.many, error.most), (13, 12))
        error = self.refuses(Broken, desk_with(*BEGIN), "put ab 0,-1,6")
        self.assertEqual((error.number, error.one, error.other), (0, (0, -1, 6), (0, 0, 0)))

    def test_what_is_refused_is_no_deed(self):
        desk = desk_with("book x ab: a>b", "put x 0,0")
        for line in ["put x 0,0", "put x 0,1", "put x", "put x 0", "take x 1,1", "hang x a>b", "book x ab"]:
            self.assertRaises(TableError, desk.say, line)
        self.says(desk, "back x", "ok")
        self.refuses(NoDeed, desk, "back x")


class ManyLines(unittest.TestCase):
    """Thrown lines, good and bad, against a plain desk."""

    POOL = {
        "A": ["a", "a", "a", "b", "b", "b", "c", "zz", "A", ""],
        "N": ["a", "b", "c", "zz", "zz", "abcdefghi", ""],
        "ROW": ["0,0,0", "0,0,1", "0,1,0", "1,0,0", "1,1,1", "2,0,1", "0,0", "0", "1", "-1", "x", "", "00,0,0"],
        "C": ["a", "b", "c", "d", "ab", ""],
        "K": ["0", "1", "2", "-1", "01", "x", "", str(LONGEST), str(LONGEST + 1)],
        "SET": ["-", "a", "b", "c", "ab", "bc", "abc", "ba", "d", ""],
        "HANGING": ["a>b", "b>c", "->a", "ab>c", "c>ab", "->-", "a>-", "a", "a>d", "", "b>a>c"],
        "SPLIT": ["ab/bc", "a/b/c", "abc", "ab/ac", "ac/bc", "a", "a/b", "ab/bc/c", "bc/ab", "", "-/abc"],
        "TEXT": ["abc:", "abc: a>b b>c", "abc: ->a ab>c", "a:", "a: ->a", "ab: a>b", "ab: b>a a>b", "", "abc", "abc: "],
    }

    def line(self, thrown):
        # Rows must come in more often than shelves are made anew, that something may be broken.
        lines = [*LINES, *["put A ROW"] * 8, *["hang A HANGING"] * 3]
        word, *kinds = lines[next(thrown) % len(lines)].split(" ")
        words = [word, *[self.POOL[kind][next(thrown) % len(self.POOL[kind])] for kind in kinds]]
        if next(thrown) % 25 == 0:
            words.insert(next(thrown) % (len(words) + 1), ["", "a", "1"][next(thrown) % 3])
        if next(thrown) % 25 == 0:
            words.pop(next(thrown) % len(words))
        return " ".join(words)

    def told(self, desk, line):
        try:
            return desk.say(line)
        except Refused as refused:
            return refused.args
        except TableError as error:
            fields = ["many", "most", "number", "one", "other"]
            return type(error).__name__, *[getattr(error, field) for field in fields if field in vars(error)]

    def test_each_is_answered_or_refused_as_by_the_plain_desk(self):
        told = []
        for seed in range(40):
            thrown = dice(seed)
            desk, plain = Desk(), PlainDesk()
            for line in ["book a abc: a>b", "book b abc:", "book c a:", *[self.line(thrown) for turn in range(150)]]:
                wanted = self.told(plain, line)
                self.assertEqual(self.told(desk, line), wanted, line)
                told.append(wanted if isinstance(wanted, str) else wanted[0])
        for name in ["NoLine", "NoName", "NoText", "NoColumn", "NoNumber", "There", "Gone", "Broken", "NoDeed", "ok",
                     "yes",
                     "no", ""]:
            self.assertGreater(told.count(name), 5, name)

    def test_the_same_lines_again(self):
        thrown = dice(99)
        lines = [self.line(thrown) for turn in range(300)]
        one, other = Desk(), Desk()
        self.assertEqual([self.told(one, line) for line in lines], [self.told(other, line) for line in lines])


class TwoDesks(Same):
    def test_in_turn(self):
        one, other = Desk(), Desk()
        one.say("book x ab:")
        self.refuses(NoName, other, "show x")
        other.say("book x c:")
        other.say("put x 5")
        self.says(one, "show x", "ab:")
        one.say("put x 1,1")
        self.says(other, "show x", "c: 5")
        self.says(other, "back x", "ok")
        self.says(one, "show x", "ab: 1,1")
        for line, desk in itertools.product(["book y h:", "copy y z"], [one]):
            desk.say(line)
        self.says(other, "names", "x")
        self.says(one, "names", "x y z")

    def test_the_method_stands_in_the_class_itself(self):
        self.assertIn("say", vars(Desk))


if __name__ == "__main__":
    unittest.main()
