"""A desk as the document tells it, done plainly: a pattern for each line, and plain shelves behind it."""

import re

import plain_texts
from keytables.fills import is_whole
from keytables.keys import keys
from keytables.splits import lost
from keytables.stems import stem_book
from plain_shelf import PlainShelf, need
from plainly import covers, does_follow

WORDS = {"A": "([a-z]{1,8})", "N": "([a-z]{1,8})", "K": f"({plain_texts.NUMBER})", "TEXT": "((?s:.*))"}
LINES = ["book N TEXT", "copy A N", "names", "put A ROW", "take A ROW", "turn A ROW C K", "hang A HANGING", "loose A K",
         "back A", "show A", "rules A", "cover A SET", "follows A HANGING", "keys A", "stems A", "whole A SPLIT",
         "lost A SPLIT"]
READ = {"ROW": plain_texts.row_of, "SET": plain_texts.set_of, "HANGING": plain_texts.hanging_of,
        "SPLIT": plain_texts.split_of}


def written_set(some):
    return some or "-"


def written_book(book):
    hangings = [">".join(map(written_set, hanging)) for hanging in book[1]]
    return " ".join([book[0] + ":", *hangings])


class PlainDesk:
    def __init__(self):
        self.shelves = {}

    def say(self, line):
        for form in LINES:
            word, *kinds = form.split(" ")
            pattern = " ".join([word, *[WORDS.get(kind, "([^ ]*)") for kind in kinds]])
            match = re.fullmatch(pattern, line) if isinstance(line, str) else None
            if match:
                return self.answer(word, kinds, list(match.groups()))
        return need(False, "NoLine")

    def answer(self, word, kinds, words):
        if word == "names":
            return " ".join(sorted(self.shelves))
        if word == "book":
            book = plain_texts.book_of(words[1])
            need(book is not None, "NoText")
            self.shelves[words[0]] = PlainShelf(book)
            return "ok"
        need(words[0] in self.shelves, "NoName")
        shelf = self.shelves[words[0]]
        if word == "copy":
            self.shelves[words[1]] = PlainShelf(shelf.book())
            self.shelves[words[1]].rows = set(shelf.rows)
            return "ok"
        things = [self.read(shelf.head, kind, one) for kind, one in zip(kinds[1:], words[1:])]
        if word in ["put", "take", "turn", "hang", "loose", "back"]:
            shelf.ask(word, *things)
            return "ok"
        return getattr(self, word)(shelf, *things)

    def read(self, head, kind, word):
        if kind == "K":
            return int(word)
        if kind == "C":
            need(word in list(head), "NoColumn")
            return word
        thing = READ[kind](head, word)
        need(thing is not None, "NoText")
        return thing

    def show(self, shelf):
        head, rows = shelf.table()
        return " ".join([head + ":", *[",".join(map(str, row)) for row in rows]])

    def rules(self, shelf):
        return written_book(shelf.book())

    def cover(self, shelf, some):
        return written_set(covers(shelf.book())[some])

    def follows(self, shelf, hanging):
        return "yes" if does_follow(shelf.book(), hanging) else "no"

    def keys(self, shelf):
        return " ".join(map(written_set, keys(shelf.book())))

    def stems(self, shelf):
        return written_book(stem_book(shelf.book()))

    def whole(self, shelf, split):
        return "yes" if is_whole(shelf.book(), split) else "no"

    def lost(self, shelf, split):
        return " ".join(map(str, lost(shelf.book(), split)))
