"""Given numbers: the rows that have them, and what is known by them."""

from keytables.books import is_column_of
from keytables.errors import NoGiven
from keytables.whole_numbers import is_short_number


def need_given(head, thing):
    """Refuse what are no given numbers of a head."""
    if not is_given(head, thing):
        raise NoGiven("given numbers are a dict from columns of the head to whole numbers of at most thirty figures")


def is_given(head, thing):
    """Tell of a head and anything whether it is a dict from columns of the head to numbers."""
    if not isinstance(thing, dict):
        return False
    return all([is_column_of(head, column) and is_short_number(thing[column]) for column in thing])


def rows_having(table, given):
    """List the rows of a table that have given numbers, rising."""
    head, rows = table
    return [row for row in rows if do_agree(dict(zip(head, row)), given)]


def known_by(hangings, table, given):
    """Make the dict of what is known by given numbers, None where a column would be known by two numbers."""
    have = None
    more = dict(given)
    while more is not None and more != have:
        have = more
        more = with_found(hangings, table, have)
    return more


def with_found(hangings, table, have):
    """Make the dict of known numbers and of those that each hanging finds by them, None where two are unlike."""
    now = have
    for hanging in hangings:
        found = found_by(table, hanging, now)
        if not do_agree(now, found):
            return None
        now = {**now, **found}
    return now


def found_by(table, hanging, have):
    """Make the dict of the numbers that a hanging of a table that keeps it finds by known numbers."""
    left, right = hanging
    if not all([column in have for column in left]):
        return {}
    rows = rows_having(table, {column: have[column] for column in left})
    # All these rows have the same numbers in the right, so that the first speaks for them.
    return {column: number for row in rows[:1] for column, number in zip(table[0], row) if column in right}


def do_agree(numbers, others):
    """Tell whether two dicts from columns to numbers have the same in all columns that both have."""
    return all([numbers.get(column, others[column]) == others[column] for column in others])
