"""What follows from a book: covers, and the sets that are shut."""

from keytables.books import need_book, need_hanging, need_set_of
from keytables.sets import both, is_within, one_fewer, set_of, sets_in


def follows(book, hanging):
    """Tell whether a hanging of the book's head follows from the book."""
    need_book(book)
    need_hanging(book[0], hanging)
    return follows_by(book[1], hanging)


def cover(book, some):
    """Tell the cover of a set of the book's columns."""
    need_book(book)
    need_set_of(book[0], some)
    return cover_by(book[1], some)


def shut_sets(book):
    """Tell the rising list of all sets of the book's columns that are their own cover."""
    need_book(book)
    return [some for some in sets_in(book[0]) if cover_by(book[1], some) == some]


def follows_by(hangings, hanging):
    """Tell whether a hanging follows from some hangings."""
    left, right = hanging
    return is_within(right, cover_by(hangings, left))


def cover_by(hangings, some):
    """Make the cover of a set by some hangings."""
    have = some
    more = grown(hangings, have)
    while more != have:
        have = more
        more = grown(hangings, have)
    return have


def grown(hangings, some):
    """Put to a set, by each hanging in order, its right where its left lies in what there is."""
    for left, right in hangings:
        if is_within(left, some):
            some = set_of(some + right)
    return some


def covers_in(hangings, whole):
    """Make the dict from each set that lies in a whole to what its cover has of the whole's columns."""
    return {some: both(cover_by(hangings, some), whole) for some in sets_in(whole)}


def least_hangings(covers):
    """List the hangings of one column on a set that lacks it and has it in its cover, but no lesser set has.

    The covers are a dict from all sets of some columns; a set's cover has that of each set that lies in it.
    """
    return [(left, right) for left in sorted(covers) for right in covers[left] if is_least(covers, left, right)]


def is_least(covers, left, right):
    """Tell whether a column of a set's cover is neither in the set nor in the cover of a lesser one."""
    # Covers grow with their sets, so the sets with one column fewer speak for all lesser ones.
    return right not in left and not any([right in covers[fewer] for fewer in one_fewer(left)])
