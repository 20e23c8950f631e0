"""Books: a head of columns, and the hangings that are told of it."""

from keytables.errors import NoBook, NoHanging, NoSet, Unlike
from keytables.sets import is_set, lies_in

MOST_HANGINGS = 12


def is_book(thing):
    """Tell of anything whether it is a book."""
    if not is_pair(thing):
        return False
    head, hangings = thing
    return is_head(head) and are_hangings_of(head, hangings)


def is_hanging(book, thing):
    """Tell of a book and anything whether it is a hanging of the book's head."""
    need_book(book)
    return is_hanging_of(book[0], thing)


def need_book(thing):
    """Refuse what is no book."""
    if not is_book(thing):
        raise NoBook("a book is a tuple of a head and a rising tuple of at most twelve hangings of it")


def need_hanging(head, thing):
    """Refuse what is no hanging of a head."""
    if not is_hanging_of(head, thing):
        raise NoHanging("a hanging is a tuple of two sets that lie in the head")


def need_set_of(head, thing):
    """Refuse what is no set that lies in a head."""
    if not is_set_of(head, thing):
        raise NoSet("a set of columns that the head has is wanted")


def need_columns_of(head, thing):
    """Refuse what is no set with a column at least that lies in a head."""
    need_set_of(head, thing)
    if thing == "":
        raise NoSet("a set with a column at least is wanted")


def need_one_head(one, other):
    """Refuse two heads that are not one."""
    if one != other:
        raise Unlike("the two have unlike heads")


def is_head(thing):
    """Tell of anything whether it is a head."""
    return is_set(thing) and thing != ""


def is_column_of(head, thing):
    """Tell of a head and anything whether it is a column of the head."""
    return is_set_of(head, thing) and len(thing) == 1


def is_set_of(head, thing):
    """Tell of a head and anything whether it is a set that lies in the head."""
    return is_set(thing) and lies_in(thing, head)


def is_hanging_of(head, thing):
    """Tell of a head and anything whether it is a hanging of the head."""
    if not is_pair(thing):
        return False
    left, right = thing
    return is_set_of(head, left) and is_set_of(head, right)


def are_hangings_of(head, thing):
    """Tell of a head and anything whether it can stand as the hangings of a book with that head."""
    if not isinstance(thing, tuple) or len(thing) > MOST_HANGINGS:
        return False
    # The order comes last: Python cannot compare things of unlike kinds, but it can compare hangings.
    return all([is_hanging_of(head, part) for part in thing]) and is_rising(thing)


def is_rising(things):
    """Tell of a tuple or list whether each thing in it is greater than the one ahead."""
    return all([one < other for one, other in zip(things, things[1:])])


def is_pair(thing):
    """Tell of anything whether it is a tuple of two."""
    return isinstance(thing, tuple) and len(thing) == 2
