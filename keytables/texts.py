"""Books, tables and splits as texts: each is written in one way, and only what is so written is read."""

from keytables.books import is_book, is_hanging_of, is_head, is_set_of, need_book
from keytables.errors import NoText
from keytables.fills import is_split_of, need_split
from keytables.tables import is_row_of, is_table, need_table
from keytables.whole_numbers import MOST_FIGURES

FIGURES = "0123456789"


def book_text(book):
    """Tell the text that writes a book."""
    need_book(book)
    head, hangings = book
    return " ".join([head + ":"] + [hanging_text(hanging) for hanging in hangings])


def table_text(table):
    """Tell the text that writes a table."""
    need_table(table)
    head, rows = table
    return " ".join([head + ":"] + [row_text(row) for row in rows])


def split_text(book, split):
    """Tell the text that writes a split of the book's head."""
    need_book(book)
    need_split(book[0], split)
    return "/".join([set_text(some) for some in split])


def read_book(text):
    """Tell the book that a text writes."""
    need_text(text)
    head, words = head_and_words(text)
    book = (head, tuple([hanging_in(word) for word in words]))
    need_written(is_book(book), "book")
    return book


def read_table(text):
    """Tell the table that a text writes."""
    need_text(text)
    head, words = head_and_words(text)
    table = (head, tuple([row_in(word) for word in words]))
    need_written(is_table(table), "table")
    return table


def read_split(book, text):
    """Tell the split of the book's head that a text writes."""
    need_book(book)
    need_text(text)
    split = tuple([set_in(word) for word in text.split("/")])
    need_written(is_split_of(book[0], split), "split of the head")
    return split


def read_set(head, word):
    """Tell the set of a head's columns that a word writes."""
    some = set_in(word)
    need_written(is_set_of(head, some), "set of the head")
    return some


def read_hanging(head, word):
    """Tell the hanging of a head that a word writes."""
    hanging = hanging_in(word)
    need_written(is_hanging_of(head, hanging), "hanging of the head")
    return hanging


def read_row(head, word):
    """Tell the row under a head that a word writes."""
    row = row_in(word)
    need_written(is_row_of(head, row), "row under the head")
    return row


def set_text(some):
    """Make the text that writes a set."""
    return "-" if some == "" else some


def hanging_text(hanging):
    """Make the text that writes a hanging."""
    return ">".join([set_text(some) for some in hanging])


def row_text(row):
    """Make the text that writes a row."""
    return ",".join([str(number) for number in row])


def head_and_words(text):
    """Make the head ahead of the colon, None where there is no such, and the list of the words behind it."""
    first, *words = text.split(" ")
    return (first[:-1] if first.endswith(":") else None), words


def set_in(word):
    """Make the set that a word writes, None where it writes none."""
    if word == "-":
        return ""
    return word if is_head(word) else None


def hanging_in(word):
    """Make the tuple of what stands between the signs > of a word, each a set, or None where it writes none."""
    return tuple([set_in(side) for side in word.split(">")])


def row_in(word):
    """Make the tuple of what stands between the commas of a word, each a number, or None where it writes none."""
    return tuple([number_in(part) for part in word.split(",")])


def number_in(word):
    """Make the number of at most thirty figures that a word writes, None where it writes none."""
    figures = word.removeprefix("-")
    if not 1 <= len(figures) <= MOST_FIGURES or not all([sign in FIGURES for sign in figures]):
        return None
    number = int(word)
    # A nought ahead and the sign of -0 are not there when the number is written again.
    return number if str(number) == word else None


def need_text(thing):
    """Refuse what is no text."""
    if not isinstance(thing, str):
        raise NoText("a text is wanted")


def need_written(is_written, what):
    """Refuse a text that doesn't write what is wanted."""
    if not is_written:
        raise NoText(f"the text writes no {what}")
