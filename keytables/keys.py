"""Keys: the least sets of columns on which all columns hang."""

from keytables.books import need_book, need_set_of
from keytables.covers import cover_by
from keytables.sets import one_fewer, set_of, sets_in


def keys(book):
    """Tell the rising list of the book's keys."""
    need_book(book)
    return keys_of(book)


def key_columns(book):
    """Tell the set of all columns that are in some key of the book."""
    need_book(book)
    return set_of("".join(keys_of(book)))


def many_wide(book):
    """Tell how many sets of the book's columns are wide."""
    need_book(book)
    return len([some for some in sets_in(book[0]) if has_all(book, some)])


def least_key(book):
    """Tell the first key, as texts compare, of those with the fewest columns."""
    need_book(book)
    # Of several with the fewest the first is taken, and the keys rise.
    return min(keys_of(book), key=len)


def is_wide(book, some):
    """Tell whether the cover of a set of the book's columns is the head."""
    need_book(book)
    need_set_of(book[0], some)
    return has_all(book, some)


def is_key(book, some):
    """Tell whether a set of the book's columns is wide and none that lies in it, but itself, is."""
    need_book(book)
    need_set_of(book[0], some)
    return is_least_wide(book, some)


def keys_of(book):
    """List the keys of a book, rising."""
    return [some for some in sets_in(book[0]) if is_least_wide(book, some)]


def has_all(book, some):
    """Tell whether all columns of a book hang on a set of them."""
    return cover_by(book[1], some) == book[0]


def is_least_wide(book, some):
    """Tell whether a set is wide and none that lies in it, but itself, is."""
    # A set in which a wide one lies is wide, so the sets with one column fewer speak for all lesser ones.
    return has_all(book, some) and not any([has_all(book, fewer) for fewer in one_fewer(some)])
