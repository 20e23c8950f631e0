"""A shelf as the document tells it, done plainly: sets that are changed in place, and copies of them for each deed."""

from plainly import at, breaking, sets_of
from things import LONGEST


class Refused(Exception):
    """A refusal: its args are the name of its kind and its fields."""


def need(truth, *refusal):
    if not truth:
        raise Refused(*refusal)


def is_number(thing):
    return type(thing) is int and -LONGEST <= thing <= LONGEST


class PlainShelf:
    WORDS = {"put": 1, "take": 1, "turn": 3, "hang": 1, "loose": 1}

    def __init__(self, book):
        self.head = book[0]
        self.hangings = set(book[1])
        self.rows = set()
        self.copies = []

    def table(self):
        return self.head, tuple(sorted(self.rows))

    def book(self):
        return self.head, tuple(sorted(self.hangings))

    def deeds(self):
        return len(self.copies)

    def ask(self, word, *things):
        """Do a deed as one that stands, or leave all as it was and raise what is due."""
        if word == "back":
            need(self.copies, "NoDeed")
            self.hangings, self.rows = self.copies.pop()
            return
        copy = set(self.hangings), set(self.rows)
        try:
            if word == "together":
                self.do_all(*things)
            else:
                self.do(word, *things)
            self.look()
        except Refused:
            self.hangings, self.rows = copy
            raise
        self.copies.append(copy)

    def do_all(self, deeds):
        need(type(deeds) in [tuple, list] and len(deeds) <= 20, "NoDeeds")
        for deed in deeds:
            need(type(deed) is tuple and len(deed) > 0 and type(deed[0]) is str, "NoDeeds")
            need(deed[0] in self.WORDS and len(deed) == 1 + self.WORDS[deed[0]], "NoDeeds")
        for deed in deeds:
            self.do(*deed)

    def do(self, word, *things):
        getattr(self, "do_" + word)(*things)

    def do_put(self, row):
        self.look_at_row(row)
        need(row not in self.rows, "There")
        need(len(self.rows) < 80, "TooMany", 81, 80)
        self.rows.add(row)

    def do_take(self, row):
        self.look_at_row(row)
        need(row in self.rows, "Gone")
        self.rows.remove(row)

    def do_turn(self, row, column, number):
        self.look_at_row(row)
        need(row in self.rows, "Gone")
        need(type(column) is str and column in list(self.head), "NoColumn")
        need(is_number(number), "NoNumber")
        other = tuple(number if one == column else row[place] for place, one in enumerate(self.head))
        need(other not in self.rows, "There")
        self.rows.remove(row)
        self.rows.add(other)

    def do_hang(self, hanging):
        sets = sets_of(self.head)
        need(type(hanging) is tuple and len(hanging) == 2, "NoHanging")
        need(all(type(side) is str and side in sets for side in hanging), "NoHanging")
        need(hanging not in self.hangings, "There")
        need(len(self.hangings) < 12, "TooMany", 13, 12)
        self.hangings.add(hanging)

    def do_loose(self, k):
        need(type(k) is int and k in range(len(self.hangings)), "NoNumber")
        self.hangings.remove(sorted(self.hangings)[k])

    def look_at_row(self, row):
        need(type(row) is tuple and len(row) == len(self.head) and all(map(is_number, row)), "NoRow")

    def look(self):
        """Raise Broken where the table doesn't keep the book."""
        rows = sorted(self.rows)
        for number, hanging in enumerate(sorted(self.hangings)):
            for i, j in breaking((self.head, rows), hanging):
                raise Refused("Broken", number, rows[i], rows[j])

    def having(self, given):
        return sorted(row for row in self.rows if at(self.head, row, given) == tuple(given.values()))

    def known(self, given):
        """All that is found, a column perhaps by several numbers; None where it is."""
        facts = set(given.items())
        many = -1
        while many < len(facts):
            many = len(facts)
            for left, right in self.hangings:
                for row in self.rows:
                    if set(zip(left, at(self.head, row, left))) <= facts:
                        facts |= set(zip(right, at(self.head, row, right)))
        told = dict(facts)
        return told if len(told) == len(facts) else None
