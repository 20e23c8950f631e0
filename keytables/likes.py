"""Whether two books tell the same."""

from keytables.books import need_book, need_one_head
from keytables.covers import cover_by, follows_by
from keytables.sets import sets_in


def alike(book, other):
    """Tell whether two books have one head and the same hangings follow from both."""
    need_book(book)
    need_book(other)
    return book[0] == other[0] and all_follow(book[1], other[1]) and all_follow(other[1], book[1])


def first_unlike(book, other):
    """Tell the least hanging of one column on a set that lacks it that follows from just one of two books."""
    need_book(book)
    need_book(other)
    need_one_head(book[0], other[0])
    for left in sets_in(book[0]):
        one = cover_by(book[1], left)
        two = cover_by(other[1], left)
        if one != two:
            return left, first_apart(book[0], one, two)
    return None


def all_follow(hangings, others):
    """Tell whether all of the other hangings follow from the hangings."""
    return all([follows_by(hangings, hanging) for hanging in others])


def first_apart(head, one, other):
    """Tell the first column of a head that is in just one of two unlike sets."""
    return min([column for column in head if (column in one) != (column in other)])
