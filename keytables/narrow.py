"""What follows from a book among some of its columns."""

from keytables.books import need_book, need_columns_of
from keytables.covers import covers_in
from keytables.stems import stem_hangings


def narrowed(book, some):
    """Tell the rising list of the stems and their covers among some columns of a book."""
    need_book(book)
    need_columns_of(book[0], some)
    return stem_hangings(covers_in(book[1], some))
