"""Askers: books whose places are asked for, and come later or never."""

from cardplaces.books import BookHolder


class Asker(BookHolder):
    def __init__(self, place, most):
        BookHolder.__init__(self, place, most)
        self.given = 0
        # What is waited for: its ticket, and its place and how far to go for it, as move takes them.
        self.asked = None

    def waiting(self):
        return None if self.asked is None else self.asked[0]

    def ask(self, place):
        return self.wait_for(place, None)

    def ask_go(self, by):
        # The book stays as it is while a go is waited for, so the ways add up.
        way = self.way_asked() + by
        return self.wait_for(self.book.place_at(way), way)

    def came(self, ticket):
        if not self.is_waited_for(ticket):
            return False
        self.move(self.asked[1], self.asked[2])
        self.stop()
        return True

    def failed(self, ticket):
        if not self.is_waited_for(ticket):
            return False
        self.stop()
        return True

    def stop(self):
        self.asked = None

    def is_waited_for(self, ticket):
        return self.asked is not None and self.asked[0] == ticket

    def way_asked(self):
        if self.asked is None or self.asked[2] is None:
            return 0
        return self.asked[2]

    def wait_for(self, place, by):
        ticket = self.given
        self.given += 1
        self.asked = (ticket, place, by)
        return ticket
