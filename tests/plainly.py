"""What the document says, done the long way: by all sets, all pairs of rows, all steps that there can be.

Two rows of a table tell of a hanging only where they agree. So a hanging follows from a book just where it is kept by
each set of columns that, as the agreement of two rows, keeps the book: nothing here grows a cover.
"""

import functools
import itertools

from things import ALL


def sets_of(head):
    """All sets that lie in a head, rising."""
    many = range(len(head) + 1)
    return sorted("".join(columns) for size in many for columns in itertools.combinations(head, size))


def hangings_of(head):
    """All hangings of a head, rising."""
    return list(itertools.product(sets_of(head), repeat=2))


def lesser(some):
    """All sets that lie in a set and are not it."""
    return [one for one in sets_of(some) if one != some]


def lies(one, other):
    return set(one) <= set(other)


def joined(one, other):
    return "".join(sorted(set(one) | set(other)))


@functools.cache
def agreeing(book):
    """The sets in which two rows of a table that keeps the book can agree, all of them shut."""
    head, hangings = book
    return [some for some in sets_of(head) if all(not lies(x, some) or lies(y, some) for x, y in hangings)]


@functools.cache
def covers(book):
    """The cover of each set of the book's columns."""
    told = {}
    for some in sets_of(book[0]):
        around = [set(one) for one in agreeing(book) if lies(some, one)]
        told[some] = "".join(column for column in book[0] if all(column in one for one in around))
    return told


def does_follow(book, hanging):
    left, right = hanging
    return all(lies(right, some) for some in agreeing(book) if lies(left, some))


def at(head, row, some):
    """What a row has in the columns of a set."""
    return tuple(row[head.index(column)] for column in some)


def breaking(table, hanging):
    """All pairs of numbers of rows that break a hanging, the least one first."""
    head, rows = table
    left, right = hanging
    told = []
    for i, j in itertools.product(range(len(rows)), repeat=2):
        same = at(head, rows[i], left) == at(head, rows[j], left)
        if i < j and same and at(head, rows[i], right) != at(head, rows[j], right):
            told.append((i, j))
    return sorted(told)


def is_kept(table, hanging):
    """Whether what the rows have in the left tells what they have in the right."""
    head, rows = table
    told = {}
    for row in rows:
        told.setdefault(at(head, row, hanging[0]), set()).add(at(head, row, hanging[1]))
    return all(len(rights) == 1 for rights in told.values())


def least_of(head, holds):
    """The hangings of a column on a set that lacks it that hold, and do not with any lesser left."""
    held = {}
    for left, right in itertools.product(sets_of(head), head):
        held[left, right] = right not in left and holds((left, right))
    return [hanging for hanging in sorted(held) if held[hanging] and not any(
        held[left, hanging[1]] for left in lesser(hanging[0]))]


def next_steps(book, ahead):
    """All steps that a paper of the book can have behind the steps ahead."""
    head, hangings = book
    told = [(hanging, ("given", k)) for k, hanging in enumerate(hangings)]
    told += [((left, right), ("own",)) for left, right in hangings_of(head) if lies(right, left)]
    for i, ((left, right), why) in enumerate(ahead):
        told += [((joined(left, some), joined(right, some)), ("more", i, some)) for some in sets_of(head)]
        for j, ((other, last), why) in enumerate(ahead):
            if right == other:
                told.append(((left, last), ("on", i, j)))
    return told


class Papers:
    """Tells of a book and anything whether it is a paper, by all steps that there can be."""

    def __init__(self, book):
        self.book = book
        self.known = {}

    def good(self, ahead):
        # Written out, so that True is no 1 and a list no tuple.
        word = repr(ahead)
        if word not in self.known:
            self.known[word] = {repr(step) for step in next_steps(self.book, ahead)}
        return self.known[word]

    def are_good(self, thing):
        if not isinstance(thing, tuple) or len(thing) not in range(1, 61):
            return False
        return all(repr(step) in self.good(thing[:number]) for number, step in enumerate(thing))


def dice(seed):
    """Numbers without end that look like thrown ones, always the same."""
    while True:
        seed = (seed * 1103515245 + 12345) % 2 ** 31
        yield seed >> 12


def made_book(columns, many, seed):
    """A book of so many columns and at most so many hangings, of which most are small."""
    thrown = dice(seed)
    head = "".join(sorted(sorted(ALL, key=lambda column: next(thrown))[:columns]))
    hangings = set()
    for turn in range(many):
        left = "".join(column for column in head if next(thrown) % max(columns, 4) < 2)
        right = "".join(column for column in head if next(thrown) % max(columns, 4) < 2)
        hangings.add((left, right))
    return head, tuple(sorted(hangings))


def made_books():
    """Books of one to eight columns, without hangings and with up to twelve."""
    sizes = itertools.product(range(1, 9), [0, 1, 2, 3, 5, 8, 12])
    return [made_book(columns, many, 100 * columns + many) for columns, many in sizes]


def made_table(columns, many, most, seed):
    """A table of so many columns and at most so many rows, with numbers from 0 up to below most."""
    thrown = dice(seed)
    head = "".join(sorted(sorted(ALL, key=lambda column: next(thrown))[:columns]))
    rows = {tuple(next(thrown) % most for column in head) for turn in range(many)}
    return head, tuple(sorted(rows))


def made_tables():
    """Tables of one to eight columns, without rows and with up to eighty."""
    sizes = itertools.product(range(1, 9), [(0, 1), (1, 1), (2, 2), (3, 2), (6, 2), (9, 3), (40, 3), (80, 40)])
    return [made_table(columns, many, most, 100 * columns + many) for columns, (many, most) in sizes]
