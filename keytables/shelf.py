"""A shelf: a book and a table that keeps it through many deeds."""

from keytables.books import need_book
from keytables.deeds import done_together, hung, loosened, need_unbroken, put_in, taken_out, turned
from keytables.errors import NoDeed
from keytables.given import known_by, need_given, rows_having


class Shelf:
    """A book, and a table with its head that keeps it, at first without rows."""

    def __init__(self, book):
        need_book(book)
        # What is kept is never changed, but another is kept in its stead: so what was kept ahead of a deed stays.
        self.kept = (book, (book[0], ()))
        self.past = []

    def put(self, row):
        """Put a row in."""
        self.keep(put_in(self.kept, row))

    def take(self, row):
        """Take a row out."""
        self.keep(taken_out(self.kept, row))

    def turn(self, row, column, number):
        """Turn a row's number in a column to another one."""
        self.keep(turned(self.kept, row, column, number))

    def hang(self, hanging):
        """Put a hanging to the book's."""
        self.keep(hung(self.kept, hanging))

    def loose(self, k):
        """Take the hanging with a number out of the book."""
        self.keep(loosened(self.kept, k))

    def together(self, deeds):
        """Do some deeds one behind the other, as one deed."""
        self.keep(done_together(self.kept, deeds))

    def back(self):
        """Undo the last deed that stands."""
        if len(self.past) == 0:
            raise NoDeed("no deed stands")
        self.kept = self.past.pop()

    def table(self):
        """Tell the table."""
        return self.kept[1]

    def book(self):
        """Tell the book."""
        return self.kept[0]

    def deeds(self):
        """Tell how many deeds stand."""
        return len(self.past)

    def having(self, given):
        """Tell the rising list of the rows that have given numbers."""
        need_given(self.kept[0][0], given)
        return rows_having(self.kept[1], given)

    def known(self, given):
        """Tell what is known by given numbers, None where a column would be known by two numbers."""
        book, table = self.kept
        need_given(book[0], given)
        return known_by(book[1], table, given)

    def keep(self, now):
        """Keep what a deed makes, where that is not broken."""
        need_unbroken(now)
        self.past.append(self.kept)
        self.kept = now

    def fresh(self):
        """Make a new shelf that has this one's book and rows, of which no deed stands."""
        other = Shelf(self.kept[0])
        other.kept = self.kept
        return other
