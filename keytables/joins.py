"""Parts of tables, and tables joined."""

from keytables.books import need_columns_of
from keytables.errors import TooMany
from keytables.sets import both, either
from keytables.tables import MOST_ROWS, need_table, numbers_in


def part(table, some):
    """Tell the table of a table's rows, narrowed to some of its columns."""
    need_table(table)
    head, rows = table
    need_columns_of(head, some)
    return some, tuple(sorted({numbers_in(head, row, some) for row in rows}))


def joined(table, other):
    """Tell the table of all rows that are, narrowed, in both tables."""
    need_table(table)
    need_table(other)
    rows = joined_rows(table, other)
    if len(rows) > MOST_ROWS:
        raise TooMany(len(rows), MOST_ROWS)
    return either(table[0], other[0]), tuple(sorted(rows))


def joined_rows(table, other):
    """List the rows that are, narrowed, in both tables, each once."""
    shared = both(table[0], other[0])
    ones = [dict(zip(table[0], row)) for row in table[1]]
    others = [dict(zip(other[0], row)) for row in other[1]]
    # A joined row tells the two of which it was made, so none is made twice.
    return [one_row(one, two) for one in ones for two in others if do_meet(one, two, shared)]


def do_meet(one, two, shared):
    """Tell whether two rows, dicts from columns to numbers, are the same in all columns that they share."""
    return all([one[column] == two[column] for column in shared])


def one_row(one, two):
    """Make the row that has the numbers of two rows that meet."""
    numbers = {**one, **two}
    return tuple([numbers[column] for column in sorted(numbers)])
