"""Splits of a head, and the rows that are filled till they tell whether a split is whole."""

from keytables.books import is_rising, is_set_of, need_book
from keytables.errors import NoSplit
from keytables.sets import set_of
from keytables.tables import numbers_in, row_beside
from keytables.whole_numbers import is_place

MOST_SETS = 64
MOST_STEPS = 600


def filled(book, split):
    """Tell the filled rows of a book and a split of its head."""
    need_book(book)
    need_split(book[0], split)
    rows, steps = filled_by_steps(book, split)
    return rows


def is_whole(book, split):
    """Tell whether each table that keeps the book comes again when all its parts by the split are joined."""
    need_book(book)
    need_split(book[0], split)
    rows, steps = filled_by_steps(book, split)
    return has_noughts(rows)


def is_fill(book, split, thing):
    """Tell of a book, a split of its head and anything whether it is a fill paper of them."""
    need_book(book)
    need_split(book[0], split)
    if not isinstance(thing, tuple) or len(thing) > MOST_STEPS:
        return False
    head, hangings = book
    rows = first_rows(head, split)
    for step in thing:
        # The first bad step ends it: the rows are as the steps ahead make them.
        if not is_fill_step(book, rows, step):
            return False
        k, i, j = step
        rows = made_same(head, rows, (i, j), hangings[k][1])
    return has_noughts(rows)


def fill_of(book, split):
    """Tell some fill paper of a book and a split of its head, None where the split isn't whole."""
    need_book(book)
    need_split(book[0], split)
    rows, steps = filled_by_steps(book, split)
    return tuple(steps) if has_noughts(rows) else None


def need_split(head, thing):
    """Refuse what is no split of a head."""
    if not is_split_of(head, thing):
        raise NoSplit("a split is a rising tuple of one to sixty-four sets with columns that together are the head")


def is_split_of(head, thing):
    """Tell of a head and anything whether it is a split of the head."""
    if not isinstance(thing, tuple) or not 1 <= len(thing) <= MOST_SETS:
        return False
    # The order comes last: Python cannot compare things of unlike kinds, but it can compare sets.
    if not all([is_set_of(head, part) and part != "" for part in thing]):
        return False
    return is_rising(thing) and set_of("".join(thing)) == head


def first_rows(head, split):
    """List the rows of a split as they are ahead of all filling."""
    return [row_beside(head, some, k + 1) for k, some in enumerate(split)]


def filled_by_steps(book, split):
    """Make the list of the filled rows, and that of the steps by which they come, each of which changes some row.

    Each step leaves some column with fewer unlike numbers. In 64 rows of eight columns that can be done 504 times at
    the most, so there are never more steps than a fill paper may have.
    """
    head, hangings = book
    rows = first_rows(head, split)
    steps = []
    many = -1
    while many < len(steps):
        many = len(steps)
        for k, hanging in enumerate(hangings):
            rows, pairs = filled_by(head, rows, hanging)
            steps = steps + [(k, i, j) for i, j in pairs]
    return rows, steps


def filled_by(head, rows, hanging):
    """Make the list of the rows as a hanging fills them, and that of the pairs of rows by which it does."""
    left, right = hanging
    now = rows
    firsts = {}
    pairs = []
    for j, row in enumerate(rows):
        # What changes stands in columns that the left lacks, so the left may be read off the row as it was.
        i = firsts.setdefault(numbers_in(head, row, left), j)
        if numbers_in(head, now[i], right) != numbers_in(head, now[j], right):
            pairs.append((i, j))
            now = made_same(head, now, (i, j), right)
    return now, pairs


def made_same(head, rows, pair, some):
    """List the rows as they are when two of them are made the same in the columns of a set."""
    one, other = rows[pair[0]], rows[pair[1]]
    # The lesser number of each column and the greater one, which gives way to it; they are one where nothing does.
    ways = [(min(x, y), max(x, y)) if column in some else (x, x) for column, x, y in zip(head, one, other)]
    return [tuple([low if number == high else number for number, (low, high) in zip(row, ways)]) for row in rows]


def is_fill_step(book, rows, thing):
    """Tell of a book, its rows as the steps ahead make them and anything whether it can be the next step."""
    if not isinstance(thing, tuple) or len(thing) != 3:
        return False
    head, hangings = book
    k, i, j = thing
    if not is_place(k, len(hangings)) or not is_place(j, len(rows)) or not is_place(i, j):
        return False
    left = hangings[k][0]
    return numbers_in(head, rows[i], left) == numbers_in(head, rows[j], left)


def has_noughts(rows):
    """Tell whether some row has 0 in all columns."""
    return any([not any(row) for row in rows])
