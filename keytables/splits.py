"""What a split loses, and splits into sets that are neat or fair."""

from keytables.books import need_book, need_columns_of
from keytables.covers import cover_by, covers_in, follows_by
from keytables.fills import need_split
from keytables.keys import has_all, least_key
from keytables.least import without
from keytables.sets import both, is_within, lacked, one_fewer, set_of


def lost(book, split):
    """Tell the rising list of the numbers of the book's hangings that are lost by a split of its head."""
    need_book(book)
    head, hangings = book
    need_split(head, split)
    covers = [cover_by_parts(hangings, split, left) for left, right in hangings]
    return [k for k, covered in enumerate(covers) if not is_within(hangings[k][1], covered)]


def first_rough(book, some):
    """Tell the least set in a whole that has neither itself nor the whole as its own cover, None where it is neat."""
    need_book(book)
    need_columns_of(book[0], some)
    return min(rough_sets(covers_in(book[1], some), some), default=None)


def is_fair(book, some):
    """Tell whether each column that hangs on a set in the whole is in that set, or in a key, or all hang on the set."""
    need_book(book)
    need_columns_of(book[0], some)
    covers = covers_in(book[1], some)
    in_keys = "".join(own_keys(covers, some))
    return all([is_within(covers[one], set_of(one + in_keys)) for one in covers if covers[one] != some])


def neat_split(book):
    """Tell some split of the book's head that is whole and all of whose sets are neat."""
    need_book(book)
    head, hangings = book
    told = []
    rest = head
    cut = least_cut(hangings, rest)
    while cut is not None:
        some, covered = cut
        told.append(covered)
        # What both sides of the cut have is the set on which one side hangs, so the cut is whole.
        rest = set_of(some + lacked(rest, covered))
        cut = least_cut(hangings, rest)
    return outer_split([*told, rest])


def fair_split(book):
    """Tell some whole split of the book's head by which nothing is lost and all of whose sets are fair."""
    need_book(book)
    # Each hanging that is needed lies in a set of its own, so nothing is lost.
    sets = [set_of(left + right) for left, right in reduced(book[1]) if right != ""]
    # Then the split is whole just where a set is wide; a key is so, and fair.
    if not any([has_all(book, some) for some in sets]):
        sets = [*sets, least_key(book)]
    return outer_split(sets)


def cover_by_parts(hangings, split, some):
    """Make the cover of a set by the hangings that follow from some and lie in one set of a split."""
    have = None
    more = some
    while more != have:
        have = more
        for one in split:
            more = set_of(more + both(cover_by(hangings, both(more, one)), one))
    return have


def rough_sets(covers, whole):
    """List the sets that have neither themselves nor the whole as their own cover, by a dict of the own covers."""
    return [some for some in covers if covers[some] not in (some, whole)]


def own_keys(covers, whole):
    """List the least sets that have the whole as their own cover, by a dict of the own covers."""
    # Covers grow with their sets, so the sets with one column fewer speak for all lesser ones.
    return [some for some in covers if covers[some] == whole
            and not any([covers[fewer] == whole for fewer in one_fewer(some)])]


def least_cut(hangings, whole):
    """Tell a rough set of a whole and its own cover, which has as few columns as there are, None where it is neat.

    A rough set of that cover would be a rough set of the whole, with a lesser own cover: so that cover is neat, and
    where it is cut off only the rest is to be cut again. Each cut makes the rest less, so there are at most eight sets.
    """
    covers = covers_in(hangings, whole)
    cuts = [(len(covers[some]), some) for some in rough_sets(covers, whole)]
    if not cuts:
        return None
    many, some = min(cuts)
    return some, covers[some]


def reduced(hangings):
    """List hangings from which the same follows, each left as small as it may be for its cover, then each right."""
    told = [(least_left(hangings, left), right) for left, right in hangings]
    for k in range(len(hangings)):
        left, right = told[k]
        for column in right:
            fewer = (left, told[k][1].replace(column, ""))
            if follows_by(without(told, k) + [fewer], (left, column)):
                told[k] = fewer
    return told


def least_left(hangings, left):
    """Make a set that lies in a left and has its cover, and has no lesser one in it that does."""
    have = left
    for column in left:
        fewer = have.replace(column, "")
        if is_within(left, cover_by(hangings, fewer)):
            have = fewer
    return have


def outer_split(sets):
    """Make the split of those of some sets that lie in no other one: what lies in another one brings nothing."""
    return tuple(sorted({some for some in sets if not any([is_within(some, one) and some != one for one in sets])}))
