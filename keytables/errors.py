"""The refusals: each kind stands straight under TableError, so that none is caught by another one's name."""


class TableError(ValueError):
    """Any refusal."""


class NoSet(TableError):
    """What should be a set is none, or is none of the columns that are wanted there."""


class NoBook(TableError):
    """What should be a book is none."""


class NoHanging(TableError):
    """What should be a hanging of a head is none."""


class Unlike(TableError):
    """Two things that should have one head have two."""


class NoTable(TableError):
    """What should be a table is none."""


class NoSplit(TableError):
    """What should be a split of a head is none."""


class NoRow(TableError):
    """What should be a row under a head is none."""


class NoColumn(TableError):
    """What should be a column of a head is none."""


class NoNumber(TableError):
    """What should be a number, or the number of a hanging, is none."""


class NoGiven(TableError):
    """What should be given numbers is none."""


class There(TableError):
    """What should be put in is there already."""


class Gone(TableError):
    """What should be there is not."""


class NoDeeds(TableError):
    """What should be a list of deeds is none."""


class NoDeed(TableError):
    """No deed stands that could be undone."""


class NoText(TableError):
    """What should write a thing is no such text."""


class NoLine(TableError):
    """What is told to a desk is no line that it takes."""


class NoName(TableError):
    """No shelf is kept by a name."""


class TooWide(TableError):
    """A book has more columns than are taken."""

    def __init__(self, many, most):
        super().__init__(f"{many} columns, and {most} are the most")
        self.many = many
        self.most = most


class TooMany(TableError):
    """There would be more of something than there may be."""

    def __init__(self, many, most):
        super().__init__(f"there would be {many}, and {most} are the most")
        self.many = many
        self.most = most


class Broken(TableError):
    """Two rows would break a hanging."""

    def __init__(self, number, one, other):
        super().__init__(f"hanging {number} would be broken by the rows {one} and {other}")
        self.number = number
        self.one = one
        self.other = other
