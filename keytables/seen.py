"""All that a table keeps, and the table that keeps just what follows from a book."""

from keytables.books import need_book
from keytables.covers import least_hangings, shut_sets
from keytables.errors import TooWide
from keytables.sets import both, is_within, sets_in
from keytables.tables import agreements_of, need_table, row_beside

MOST_COLUMNS = 6


def seen(table):
    """Tell the rising list of the least hangings that a table keeps."""
    need_table(table)
    agreed = agreements_of(table)
    return least_hangings({some: agreed_cover(table[0], agreed, some) for some in sets_in(table[0])})


def full_table(book):
    """Tell the table that keeps just the hangings that follow from a book of at most six columns."""
    need_book(book)
    head = book[0]
    if len(head) > MOST_COLUMNS:
        raise TooWide(len(head), MOST_COLUMNS)
    shut = [some for some in shut_sets(book) if some != head]
    rows = [row_beside(head, some, at + 1) for at, some in enumerate(shut)]
    return head, tuple(sorted([row_beside(head, head, 0), *rows]))


def agreed_cover(head, agreed, some):
    """Make the set of the columns that hang on a set in a table with these agreements."""
    # A hanging is kept just where each agreement in which its left lies has its right, so all are where there is none.
    have = head
    for columns in agreed:
        if is_within(some, columns):
            have = both(have, columns)
    return have
