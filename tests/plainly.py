"""What the document says, done the long way: by all sets, all pairs of rows, all steps that there can be.

Two rows of a table tell of a hanging only where they agree. So a hanging follows from a book just where it is kept by
each set of columns that, as the agreement of two rows, keeps the book: nothing here grows a cover.
"""

import functools
import itertools

from things import ALL


def sets_of(head):
    """All sets that lie in a head, rising."""
    many = range(len(head) + 1)
    return sorted("".join(columns) for size in many for columns in itertools.combinations(head, size))


def hangings_of(head):
    """All hangings of a head, rising."""
    return list(itertools.product(sets_of(head), repeat=2))


def lesser(some):
    """All sets that lie in a set and are not it."""
    return [one for one in sets_of(some) if one != some]


def lies(one, other):
    return set(one) <= set(other)


def joined(one, other):
    return "".join(sorted(set(one) | set(other)))


@functools.cache
def agreeing(book):
    """The sets in which two rows of a table that keeps the book can agree, all of them shut."""
    head, hangings = book
    return [some for some in sets_of(head) if all(not lies(x, some) or lies(y, some) for x, y in hangings)]


@functools.cache
def covers(book):
    """The cover of each set of the book's columns."""
    told = {}
    for some in sets_of(book[0]):
        around = [set(one) for one in agreeing(book) if lies(some, one)]
        told[some] = "".join(column for column in book[0] if all(column in one for one in around))
    return told


def does_follow(book, hanging):
    left, right = hanging
    return all(lies(right, some) for some in agreeing(book) if lies(left, some))


def own_covers(book, whole):
    """Of each set that lies in a whole the columns of the whole that hang on it."""
    return {some: "".join(column for column in whole if column in covers(book)[some]) for some in sets_of(whole)}


def stems_by(covers):
    """The stems by the covers of all sets of some columns, each with its cover: the document's own words."""

    @functools.cache
    def is_stem(some):
        return covers[some] != some and all(lies(covers[one], some) for one in lesser(some) if is_stem(one))

    # The smaller ones first, so that no set is asked of deep in others.
    return sorted((some, covers[some]) for some in sorted(covers, key=len) if is_stem(some))


def at(head, row, some):
    """What a row has in the columns of a set."""
    return tuple(row[head.index(column)] for column in some)


def breaking(table, hanging):
    """All pairs of numbers of rows that break a hanging, the least one first."""
    head, rows = table
    left, right = hanging
    told = []
    for i, j in itertools.product(range(len(rows)), repeat=2):
        same = at(head, rows[i], left) == at(head, rows[j], left)
        if i < j and same and at(head, rows[i], right) != at(head, rows[j], right):
            told.append((i, j))
    return sorted(told)


def is_kept(table, hanging):
    """Whether what the rows have in the left tells what they have in the right."""
    head, rows = table
    told = {}
    for row in rows:
        told.setdefault(at(head, row, hanging[0]), set()).add(at(head, row, hanging[1]))
    return all(len(rights) == 1 for rights in told.values())


def least_of(head, holds):
    """The hangings of a column on a set that lacks it that hold, and do not with any lesser left."""
    held = {}
    for left, right in itertools.product(sets_of(head), head):
        held[left, right] = right not in left and holds((left, right))
    return [hanging for hanging in sorted(held) if held[hanging] and not any(
        held[left, hanging[1]] for left in lesser(hanging[0]))]


def part_of(table, some):
    head, rows = table
    return some, tuple(sorted({at(head, row, some) for row in rows}))


def join_of(tables):
    """The table of all rows whose parts are in all the tables: they grow by a column at a time, each as it may."""
    head = "".join(sorted(set().union(*[table[0] for table in tables])))
    begun = [()]
    for many in range(1, len(head) + 1):
        numbers = {number for columns, rows in tables for row in rows for number in row}
        begun = [(*row, number) for row in begun for number in sorted(numbers)]
        for table in tables:
            some = "".join(column for column in head[:many] if column in table[0])
            parts = {at(table[0], row, some) for row in table[1]}
            begun = [row for row in begun if at(head, row, some) in parts]
    return head, tuple(begun)


def begin_fill(head, split):
    """The rows of a split, as lists, ahead of all filling."""
    return [[0 if column in some else k + 1 for column in head] for k, some in enumerate(split)]


def give_way(head, rows, right, i, j):
    """Make two rows the same in the columns of a right."""
    for column in right:
        place = head.index(column)
        low, high = sorted([rows[i][place], rows[j][place]])
        for row in rows:
            row[place] = low if row[place] == high else row[place]


def alike_in(head, rows, some):
    """The pairs of numbers of rows that are the same in a set."""
    pairs = itertools.combinations(range(len(rows)), 2)
    return [(i, j) for i, j in pairs if at(head, rows[i], some) == at(head, rows[j], some)]


def filled_in_any_order(book, split, thrown):
    """The filled rows, the next hanging and pair each time a thrown one of all that there are."""
    head, hangings = book
    rows = begin_fill(head, split)
    while True:
        todo = [(right, i, j) for left, right in hangings for i, j in alike_in(head, rows, left)
                if at(head, rows[i], right) != at(head, rows[j], right)]
        if not todo:
            return [tuple(row) for row in rows]
        give_way(head, rows, *todo[next(thrown) % len(todo)])


def next_fill_steps(book, rows):
    """All steps that a fill paper can have where the rows are as they are."""
    head, hangings = book
    return [(k, i, j) for k, (left, right) in enumerate(hangings) for i, j in alike_in(head, rows, left)]


def is_good_fill(book, split, thing):
    """Whether it is a fill paper, by all steps that there can be."""
    head, hangings = book
    rows = begin_fill(head, split)
    if not isinstance(thing, tuple) or len(thing) not in range(601):
        return False
    for step in thing:
        # Written out, so that True is no 1 and a list no tuple.
        if repr(step) not in map(repr, next_fill_steps(book, rows)):
            return False
        give_way(head, rows, hangings[step[0]][1], *step[1:])
    return [0] * len(head) in rows


def next_steps(book, ahead):
    """All steps that a paper of the book can have behind the steps ahead."""
    head, hangings = book
    told = [(hanging, ("given", k)) for k, hanging in enumerate(hangings)]
    told += [((left, right), ("own",)) for left, right in hangings_of(head) if lies(right, left)]
    for i, ((left, right), why) in enumerate(ahead):
        told += [((joined(left, some), joined(right, some)), ("more", i, some)) for some in sets_of(head)]
        for j, ((other, last), why) in enumerate(ahead):
            if right == other:
                told.append(((left, last), ("on", i, j)))
    return told


class Papers:
    """Tells of a book and anything whether it is a paper, by all steps that there can be."""

    def __init__(self, book):
        self.book = book
        self.known = {}

    def good(self, ahead):
        # Written out, so that True is no 1 and a list no tuple.
        word = repr(ahead)
        if word not in self.known:
            self.known[word] = {repr(step) for step in next_steps(self.book, ahead)}
        return self.known[word]

    def are_good(self, thing):
        if not isinstance(thing, tuple) or len(thing) not in range(1, 61):
            return False
        return all(repr(step) in self.good(thing[:number]) for number, step in enumerate(thing))


def dice(seed):
    """Numbers without end that look like thrown ones, always the same."""
    while True:
        seed = (seed * 1103515245 + 12345) % 2 ** 31
        yield seed >> 12


def made_book(columns, many, seed):
    """A book of so many columns and at most so many hangings, of which most are small."""
    thrown = dice(seed)
    head = "".join(sorted(sorted(ALL, key=lambda column: next(thrown))[:columns]))
    hangings = set()
    for turn in range(many):
        left = "".join(column for column in head if next(thrown) % max(columns, 4) < 2)
        right = "".join(column for column in head if next(thrown) % max(columns, 4) < 2)
        hangings.add((left, right))
    return head, tuple(sorted(hangings))


def made_books():
    """Books of one to eight columns, without hangings and with up to twelve."""
    sizes = itertools.product(range(1, 9), [0, 1, 2, 3, 5, 8, 12])
    return [made_book(columns, many, 100 * columns + many) for columns, many in sizes]


def made_table(columns, many, most, seed):
    """A table of so many columns and at most so many rows, with numbers from 0 up to below most."""
    thrown = dice(seed)
    head = "".join(sorted(sorted(ALL, key=lambda column: next(thrown))[:columns]))
    rows = {tuple(next(thrown) % most for column in head) for turn in range(many)}
    return head, tuple(sorted(rows))


def made_tables():
    """Tables of one to eight columns, without rows and with up to eighty."""
    sizes = itertools.product(range(1, 9), [(0, 1), (1, 1), (2, 2), (3, 2), (6, 2), (9, 3), (40, 3), (80, 40)])
    return [made_table(columns, many, most, 100 * columns + many) for columns, (many, most) in sizes]


def made_split(head, many, seed):
    """A split of a head into at most so many sets, and one more where a column is in none of them."""
    thrown = dice(seed)
    sets = sets_of(head)[1:]
    told = {sets[next(thrown) % len(sets)] for turn in range(many)}
    others = "".join(column for column in head if not any(column in some for some in told))
    return tuple(sorted(told | {others} if others else told))


def made_splits(head, seed):
    """Splits of a head into one set and into many."""
    return [(head,), tuple(head), *[made_split(head, many, seed + many) for many in [1, 2, 3, 4, 6, 9, 20]]]
