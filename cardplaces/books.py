"""Books: the places gone to, back and forth, with numbers kept by them."""

from cardplaces.errors import NoPlace
from cardplaces.places import is_under

NO_MARK = 0


class Book:
    def __init__(self, place, most):
        self.most = most
        # A row is an entry: its place and the number kept by it, in a tuple.
        self.rows = [(place, NO_MARK)]
        self.spot = 0

    def now(self):
        return self.rows[self.spot][0]

    def entries(self):
        return [row[0] for row in self.rows]

    def number(self):
        return self.spot

    def visit(self, place):
        rows = self.rows[:self.spot + 1] + [(place, NO_MARK)]
        if len(rows) > self.most:
            rows = rows[1:]
        self.rows = rows
        self.spot = len(rows) - 1

    def replace(self, place):
        self.rows[self.spot] = (place, NO_MARK)

    def can_go(self, by):
        # Asked outright, since a negative index would count from the end.
        return 0 <= self.spot + by < len(self.rows)

    def place_at(self, by):
        if not self.can_go(by):
            raise NoPlace("no entry lies so far on or back")
        return self.rows[self.spot + by][0]

    def go(self, by):
        place = self.place_at(by)
        self.spot += by
        return place

    def mark(self, number):
        self.rows[self.spot] = (self.now(), number)

    def marked(self):
        return self.rows[self.spot][1]

    def nearest(self, place):
        ways = [spot - self.spot for spot, row in enumerate(self.rows) if row[0] == place]
        # The ways rise, and of two as near the first is told: the one further back.
        return min(ways, key=abs, default=None)

    def drop(self, other):
        return self.keep_only([spot for spot, row in enumerate(self.rows)
                               if spot == self.spot or not is_under(row[0], other)])

    def tidy(self):
        last = len(self.rows) - 1
        self.keep_only([spot for spot, row in enumerate(self.rows)
                        if spot == last or row[0] != self.rows[spot + 1][0]])

    def keep_only(self, spots):
        # What is looked at may go (in tidy); the next one that stays is then looked at.
        many = len(self.rows) - len(spots)
        spot = len([kept for kept in spots if kept < self.spot])
        self.rows = [self.rows[kept] for kept in spots]
        self.spot = spot
        return many


class BookHolder:
    def __init__(self, place, most):
        self.book = Book(place, most)

    def now(self):
        return self.book.now()

    def entries(self):
        return self.book.entries()

    def number(self):
        return self.book.number()

    def move(self, place, by):
        # What is put off is kept as its place and how far to go for it, or None for a visit.
        if by is None:
            self.book.visit(place)
        else:
            self.book.go(by)
