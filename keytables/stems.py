"""Stems: the sets whose covers alone tell all that follows from a book."""

from keytables.books import need_book
from keytables.covers import covers_in
from keytables.sets import is_within


def stem_book(book):
    """Tell the book that has, of each stem of a book, the hanging of the stem and its cover."""
    need_book(book)
    head, hangings = book
    return head, tuple(stem_hangings(covers_in(hangings, head)))


def stem_hangings(covers):
    """List, rising, the hangings of each stem and its cover.

    The covers are a dict from all sets of some columns; a set's cover has that of each set that lies in it.
    """
    told = []
    # Whether a set is a stem hangs on lesser ones alone, so these are found ahead of it.
    for some in sorted(covers, key=len):
        if covers[some] != some and has_covers(told, some):
            told.append((some, covers[some]))
    return sorted(told)


def has_covers(stems, some):
    """Tell whether a set has the cover of each stem, of hangings of stems and covers, that lies in it."""
    return all([is_within(covered, some) for stem, covered in stems if is_within(stem, some)])
