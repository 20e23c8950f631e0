"""Papers, which show by steps what follows, and the tables of two rows, which show what doesn't."""

from keytables.books import is_hanging_of, is_pair, is_set_of, need_book, need_hanging
from keytables.covers import cover_by, follows_by
from keytables.sets import is_within, set_of
from keytables.tables import row_beside
from keytables.whole_numbers import is_place

MOST_STEPS = 60


def is_paper(book, thing):
    """Tell of a book and anything whether it is a paper of the book."""
    need_book(book)
    if not isinstance(thing, tuple) or not 1 <= len(thing) <= MOST_STEPS:
        return False
    for at, step in enumerate(thing):
        # The first bad step ends it: the steps ahead of one that is looked at are good.
        if not is_step(book, thing[:at], step):
            return False
    return True


def paper_of(book, hanging):
    """Tell some paper that shows a hanging of the book's head, None where it doesn't follow."""
    need_book(book)
    need_hanging(book[0], hanging)
    if not follows_by(book[1], hanging):
        return None
    left, right = hanging
    steps = cover_steps(book[1], left)
    last = len(steps) - 1
    covered = steps[last][0][1]
    steps.append(((covered, right), ("own",)))
    steps.append(((left, right), ("on", last, last + 1)))
    return tuple(steps)


def two_rows(book, hanging):
    """Tell the table of two rows that keeps the book and not the hanging, None where the hanging follows."""
    need_book(book)
    need_hanging(book[0], hanging)
    if follows_by(book[1], hanging):
        return None
    head, hangings = book
    covered = cover_by(hangings, hanging[0])
    return head, (row_beside(head, head, 0), row_beside(head, covered, 1))


def is_step(book, ahead, thing):
    """Tell of a book, the good steps ahead and anything whether it can be the next step of a paper."""
    if not is_pair(thing):
        return False
    hanging, why = thing
    return is_hanging_of(book[0], hanging) and isinstance(why, tuple) and is_why(book, ahead, hanging, why)


def is_why(book, ahead, hanging, why):
    """Tell whether a tuple is a why of a hanging behind the steps ahead."""
    match why:
        case ("given", k):
            return is_place(k, len(book[1])) and book[1][k] == hanging
        case ("own",):
            return is_within(hanging[1], hanging[0])
        case ("more", i, some):
            return is_place(i, len(ahead)) and is_set_of(book[0], some) and is_more(ahead[i][0], some, hanging)
        case ("on", i, j):
            return is_place(i, len(ahead)) and is_place(j, len(ahead)) and is_on(ahead[i][0], ahead[j][0], hanging)
    return False


def is_more(given, some, hanging):
    """Tell whether a hanging is a given one with the columns of a set put to both its sides."""
    return hanging == (set_of(given[0] + some), set_of(given[1] + some))


def is_on(one, other, hanging):
    """Tell whether two hangings meet, and a hanging is from the left of the one to the right of the other."""
    return one[1] == other[0] and hanging == (one[0], other[1])


def cover_steps(hangings, left):
    """List steps, the last of which has the hanging of a set and its cover."""
    steps = [((left, left), ("own",))]
    have = left
    for k in growing(hangings, left):
        at = len(steps)
        more = set_of(have + hangings[k][1])
        steps.append((hangings[k], ("given", k)))
        steps.append(((have, more), ("more", at, have)))
        steps.append(((left, more), ("on", at - 1, at + 1)))
        have = more
    return steps


def growing(hangings, some):
    """List the numbers of the hangings by which a set grows to its cover, in the order in which it does.

    Each brings a column at least, so there are at most eight, and a paper needs far fewer steps than it may have.
    """
    told = []
    k = next_growing(hangings, some)
    while k is not None:
        told.append(k)
        some = set_of(some + hangings[k][1])
        k = next_growing(hangings, some)
    return told


def next_growing(hangings, some):
    """Tell the number of the first hanging that brings a column to a set, None where none does."""
    for k, (left, right) in enumerate(hangings):
        if is_within(left, some) and not is_within(right, some):
            return k
    return None
