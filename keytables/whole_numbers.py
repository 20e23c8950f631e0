"""Whole numbers: ints that are no truths."""

MOST_FIGURES = 30
# The least number that has more.
TOO_LONG = 10 ** 30


def is_whole_number(thing):
    """Tell of anything whether it is a whole number."""
    return isinstance(thing, int) and not isinstance(thing, bool)


def is_short_number(thing):
    """Tell of anything whether it is a whole number of at most thirty figures."""
    return is_whole_number(thing) and abs(thing) < TOO_LONG


def is_place(thing, many):
    """Tell of anything whether it is the number of one of so many things, which are numbered from 0."""
    return is_whole_number(thing) and 0 <= thing < many
