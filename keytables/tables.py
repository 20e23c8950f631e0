"""Tables: rows of numbers under a head, and what they keep."""

from keytables.books import is_head, is_pair, is_rising, need_book, need_hanging, need_one_head
from keytables.errors import NoTable
from keytables.whole_numbers import is_short_number

MOST_ROWS = 80


def is_table(thing):
    """Tell of anything whether it is a table."""
    if not is_pair(thing):
        return False
    head, rows = thing
    return is_head(head) and are_rows_of(head, rows)


def first_broken(table, hanging):
    """Tell the first pair of numbers of rows that break a hanging of the table's head, None where it is kept."""
    need_table(table)
    need_hanging(table[0], hanging)
    return first_breaking(table, hanging)


def keeps(table, book):
    """Tell whether a table keeps a book with its head."""
    need_table(table)
    need_book(book)
    need_one_head(table[0], book[0])
    return all([first_breaking(table, hanging) is None for hanging in book[1]])


def agreements(table):
    """Tell the rising list of the agreements of any two rows of a table, each once."""
    need_table(table)
    return agreements_of(table)


def need_table(thing):
    """Refuse what is no table."""
    if not is_table(thing):
        raise NoTable("a table is a tuple of a head and a rising tuple of at most eighty rows under it")


def are_rows_of(head, thing):
    """Tell of a head and anything whether it can stand as the rows of a table with that head."""
    if not isinstance(thing, tuple) or len(thing) > MOST_ROWS:
        return False
    # The order comes last: Python cannot compare things of unlike kinds, but it can compare rows.
    return all([is_row_of(head, part) for part in thing]) and is_rising(thing)


def is_row_of(head, thing):
    """Tell of a head and anything whether it is a row under the head."""
    if not isinstance(thing, tuple) or len(thing) != len(head):
        return False
    return all([is_short_number(part) for part in thing])


def first_breaking(table, hanging):
    """Tell the first pair of numbers of rows that are the same in the left and not in the right, or None."""
    head, rows = table
    left, right = hanging
    firsts = {}
    pairs = []
    for j, row in enumerate(rows):
        # Where two rows with one left are unlike in the right, one of them is unlike the first row with that left.
        i = firsts.setdefault(numbers_in(head, row, left), j)
        if numbers_in(head, rows[i], right) != numbers_in(head, row, right):
            pairs.append((i, j))
    return min(pairs, default=None)


def numbers_in(head, row, some):
    """Make the tuple of the numbers that a row has in the columns of a set."""
    return tuple([number for column, number in zip(head, row) if column in some])


def row_beside(head, some, number):
    """Make the row that has 0 in the columns of a set and a number in all others."""
    return tuple([0 if column in some else number for column in head])


def agreements_of(table):
    """List the agreements of any two rows of a table, rising, each once."""
    head, rows = table
    return sorted({agreement(head, one, other) for at, one in enumerate(rows) for other in rows[:at]})


def agreement(head, one, other):
    """Make the set of the columns in which two rows have the same numbers."""
    return "".join([column for column, this, that in zip(head, one, other) if this == that])
