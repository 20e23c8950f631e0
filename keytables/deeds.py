"""The deeds of a shelf: what is kept, a book and a table with its head, as it is behind each of them.

None of them looks at whether the table keeps the book: where several are done together that counts at the end alone.
"""

from keytables.books import MOST_HANGINGS, is_column_of, need_hanging
from keytables.errors import Broken, Gone, NoColumn, NoDeeds, NoNumber, NoRow, There, TooMany
from keytables.least import without
from keytables.tables import MOST_ROWS, first_breaking, is_row_of
from keytables.whole_numbers import is_place, is_short_number

MOST_DEEDS = 20
# How many things are handed to each deed that may be done together with others.
THINGS = {"put": 1, "take": 1, "turn": 3, "hang": 1, "loose": 1}


def put_in(kept, row):
    """Make what is kept when a row is put in."""
    book, (head, rows) = kept
    need_row(head, row)
    need_new(rows, row)
    need_room(rows, MOST_ROWS)
    return book, (head, in_order(rows, row))


def taken_out(kept, row):
    """Make what is kept when a row is taken out."""
    book, (head, rows) = kept
    need_row(head, row)
    need_there(rows, row)
    return book, (head, without(rows, rows.index(row)))


def turned(kept, row, column, number):
    """Make what is kept when a row's number in a column becomes another one."""
    book, (head, rows) = kept
    need_row(head, row)
    need_there(rows, row)
    need_column(head, column)
    need_number(number)
    at = head.index(column)
    other = row[:at] + (number,) + row[at + 1:]
    need_new(rows, other)
    return book, (head, in_order(without(rows, rows.index(row)), other))


def hung(kept, hanging):
    """Make what is kept when a hanging is put to the book's."""
    (head, hangings), table = kept
    need_hanging(head, hanging)
    need_new(hangings, hanging)
    need_room(hangings, MOST_HANGINGS)
    return (head, in_order(hangings, hanging)), table


def loosened(kept, k):
    """Make what is kept when the hanging with a number goes out of the book."""
    (head, hangings), table = kept
    if not is_place(k, len(hangings)):
        raise NoNumber("the book has no hanging with this number")
    return (head, without(hangings, k)), table


def done_together(kept, deeds):
    """Make what is kept when some deeds are done one behind the other."""
    need_deeds(deeds)
    for deed in deeds:
        kept = done(kept, deed)
    return kept


def done(kept, deed):
    """Make what is kept when a deed of a list of deeds is done."""
    match deed:
        case ("put", row):
            return put_in(kept, row)
        case ("take", row):
            return taken_out(kept, row)
        case ("turn", row, column, number):
            return turned(kept, row, column, number)
        case ("hang", hanging):
            return hung(kept, hanging)
    return loosened(kept, deed[1])


def need_unbroken(kept):
    """Refuse a book and a table that doesn't keep it."""
    book, table = kept
    for k, hanging in enumerate(book[1]):
        pair = first_breaking(table, hanging)
        if pair is not None:
            raise Broken(k, table[1][pair[0]], table[1][pair[1]])


def need_row(head, thing):
    """Refuse what is no row under a head."""
    if not is_row_of(head, thing):
        raise NoRow("a row is a tuple of a whole number of at most thirty figures for each column")


def need_new(things, thing):
    """Refuse a thing that is among the things."""
    if thing in things:
        raise There("it is there already")


def need_there(things, thing):
    """Refuse a thing that is not among the things."""
    if thing not in things:
        raise Gone("it is not there")


def need_room(things, most):
    """Refuse one more thing where there are as many as there may be."""
    if len(things) >= most:
        raise TooMany(len(things) + 1, most)


def need_column(head, thing):
    """Refuse what is no column of a head."""
    if not is_column_of(head, thing):
        raise NoColumn("a column of the head is wanted")


def need_number(thing):
    """Refuse what is no whole number of at most thirty figures."""
    if not is_short_number(thing):
        raise NoNumber("a whole number of at most thirty figures is wanted")


def need_deeds(thing):
    """Refuse what is no list of deeds."""
    if not isinstance(thing, (tuple, list)) or len(thing) > MOST_DEEDS or not all([is_deed(part) for part in thing]):
        raise NoDeeds("a tuple or list of at most twenty deeds is wanted, each a tuple of a word and its things")


def is_deed(thing):
    """Tell of anything whether it is a tuple of a deed's word and as many things as are handed to that deed."""
    if not isinstance(thing, tuple) or len(thing) == 0 or not isinstance(thing[0], str):
        return False
    return THINGS.get(thing[0]) == len(thing) - 1


def in_order(things, thing):
    """Make the rising tuple of some things and one more."""
    return tuple(sorted([*things, thing]))
