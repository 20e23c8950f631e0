"""A desk: shelves by names, which are told lines and answer with texts."""

from keytables.covers import cover, follows
from keytables.deeds import need_column
from keytables.errors import NoLine, NoName
from keytables.fills import is_whole
from keytables.keys import keys
from keytables.shelf import Shelf
from keytables.splits import lost
from keytables.stems import stem_book
from keytables.texts import (book_text, number_in, read_book, read_hanging, read_row, read_set, read_split, set_text,
                             table_text)

LETTERS = "abcdefghijklmnopqrstuvwxyz"
LONGEST_NAME = 8
# The words behind the first one of a line: A is the name of a shelf that is kept, N a name, C a column, K a number.
FORMS = {
    "book": ("N", "TEXT"),
    "copy": ("A", "N"),
    "names": (),
    "put": ("A", "ROW"),
    "take": ("A", "ROW"),
    "turn": ("A", "ROW", "C", "K"),
    "hang": ("A", "HANGING"),
    "loose": ("A", "K"),
    "back": ("A",),
    "show": ("A",),
    "rules": ("A",),
    "cover": ("A", "SET"),
    "follows": ("A", "HANGING"),
    "keys": ("A",),
    "stems": ("A",),
    "whole": ("A", "SPLIT"),
    "lost": ("A", "SPLIT"),
}


class Desk:
    """Shelves by names, at first none."""

    def __init__(self):
        self.shelves = {}

    def say(self, line):
        """Tell the answer to a line."""
        word, *places = line_words(line)
        if word == "names":
            return " ".join(sorted(self.shelves))
        if word == "book":
            self.shelves[places[0]] = Shelf(read_book(places[1]))
            return "ok"
        shelf = self.shelf_by(places[0])
        if word == "copy":
            self.shelves[places[1]] = shelf.fresh()
            return "ok"
        things = things_read(shelf.book(), FORMS[word][1:], places[1:])
        return answer(shelf, (word, *things))

    def shelf_by(self, name):
        """Tell the shelf that is kept by a name."""
        if name not in self.shelves:
            raise NoName("no shelf is kept by this name")
        return self.shelves[name]


def line_words(line):
    """List the words of a line, the TEXT of a book as one; refuse what is no line."""
    if not isinstance(line, str):
        raise NoLine("a line is a text")
    words = line.split(" ", 2) if line.startswith("book ") else line.split(" ")
    if words[0] not in FORMS or not has_form(FORMS[words[0]], words[1:]):
        raise NoLine("there is no such line")
    return words


def has_form(form, words):
    """Tell whether there are as many words as a form has, and its names and numbers are some."""
    return len(words) == len(form) and all([can_be(kind, word) for kind, word in zip(form, words)])


def can_be(kind, word):
    """Tell whether a word can stand in a line at the place of a kind, whichever shelves are kept."""
    match kind:
        case "A" | "N":
            return is_name(word)
        case "K":
            return number_in(word) is not None
    return True


def is_name(word):
    """Tell whether a word is a name."""
    return 1 <= len(word) <= LONGEST_NAME and all([sign in LETTERS for sign in word])


def things_read(book, form, words):
    """List the things that the words behind the name of a shelf write, from left to right."""
    return [thing_read(book, kind, word) for kind, word in zip(form, words)]


def thing_read(book, kind, word):
    """Tell what a word writes at the place of a kind, of a book's head."""
    match kind:
        case "ROW":
            return read_row(book[0], word)
        case "SET":
            return read_set(book[0], word)
        case "HANGING":
            return read_hanging(book[0], word)
        case "SPLIT":
            return read_split(book, word)
        case "C":
            need_column(book[0], word)
            return word
    return number_in(word)


def answer(shelf, asked):
    """Do a deed with a shelf, or answer a question of it: a tuple of a word and what was written behind the name."""
    match asked:
        case ("put", row):
            shelf.put(row)
        case ("take", row):
            shelf.take(row)
        case ("turn", row, column, number):
            shelf.turn(row, column, number)
        case ("hang", hanging):
            shelf.hang(hanging)
        case ("loose", k):
            shelf.loose(k)
        case ("back",):
            shelf.back()
        case ("show",):
            return table_text(shelf.table())
        case _:
            return answer_by_book(shelf.book(), asked)
    return "ok"


def answer_by_book(book, asked):
    """Answer a question of a book."""
    match asked:
        case ("cover", some):
            return set_text(cover(book, some))
        case ("follows", hanging):
            return yes_or_no(follows(book, hanging))
        case ("keys",):
            return " ".join([set_text(key) for key in keys(book)])
        case ("stems",):
            return book_text(stem_book(book))
        case ("whole", split):
            return yes_or_no(is_whole(book, split))
        case ("lost", split):
            return " ".join([str(k) for k in lost(book, split)])
    return book_text(book)


def yes_or_no(truth):
    """Make the word for a truth."""
    return "yes" if truth else "no"
