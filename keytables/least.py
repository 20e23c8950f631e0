"""Least forms of a book: without idle hangings, and by the least hangings that follow."""

from keytables.books import need_book
from keytables.covers import covers_in, follows_by, least_hangings


def idle(book):
    """Tell the rising list of the numbers of the hangings that follow from the book without them, each by itself."""
    need_book(book)
    hangings = book[1]
    return [k for k in range(len(hangings)) if is_idle(hangings, k)]


def slimmed(book):
    """Tell the book without the hangings that are idle when it is gone through from the last number to the first."""
    need_book(book)
    head, hangings = book
    still = hangings
    # What goes out stood behind those that are still to be looked at, so their numbers stay.
    for k in reversed(range(len(hangings))):
        if is_idle(still, k):
            still = without(still, k)
    return head, still


def direct(book):
    """Tell the rising list of the least hangings that follow from a book."""
    need_book(book)
    return least_hangings(covers_in(book[1], book[0]))


def is_idle(hangings, k):
    """Tell whether the hanging with a number follows from the others."""
    return follows_by(without(hangings, k), hangings[k])


def without(hangings, k):
    """Make the tuple of the hangings but that with a number."""
    return hangings[:k] + hangings[k + 1:]
