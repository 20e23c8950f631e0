"""Sets of columns: texts of unlike columns, rising."""

from keytables.errors import NoSet

COLUMNS = "abcdefgh"


def is_set(thing):
    """Tell of anything whether it is a set."""
    return isinstance(thing, str) and thing == set_of(thing)


def both(one, other):
    """Tell the set of the columns that both sets have."""
    need_set(one)
    need_set(other)
    return "".join([column for column in one if column in other])


def either(one, other):
    """Tell the set of the columns that either set has."""
    need_set(one)
    need_set(other)
    return set_of(one + other)


def lacked(one, other):
    """Tell the set of the columns of the first set that the second one lacks."""
    need_set(one)
    need_set(other)
    return "".join([column for column in one if column not in other])


def lies_in(one, other):
    """Tell whether the second set has all columns of the first one."""
    need_set(one)
    need_set(other)
    return is_within(one, other)


def need_set(thing):
    """Refuse what is no set."""
    if not is_set(thing):
        raise NoSet("a set is a text of unlike columns from a to h, rising")


def set_of(text):
    """Make the set of the columns that occur in a text."""
    return "".join([column for column in COLUMNS if column in text])


def is_within(one, other):
    """Tell of what are surely sets whether the first lies in the second."""
    # Covers ask this so often that to look at both sets each time anew would be most of the work.
    return all([column in other for column in one])


def one_fewer(some):
    """List the sets that lack just one column of a set."""
    return [some.replace(column, "") for column in some]


def sets_in(some):
    """List all sets that lie in a set, rising."""
    told = [""]
    for column in some:
        told = told + [one + column for one in told]
    return sorted(told)
