"""Guards: they let, stop, ask, or lead elsewhere; and books that ask them."""

from cardplaces.books import BookHolder
from cardplaces.errors import NotAsked, Round
from cardplaces.places import is_place, is_under

GUARD_WORDS = ("let", "stop", "ask")
MOST_GUARDS = 8
MOST_LEADS = 6


def is_guard(thing):
    if not isinstance(thing, tuple) or len(thing) != 3:
        return False
    return is_place(thing[0]) and is_place(thing[1]) and (thing[2] in GUARD_WORDS or is_place(thing[2]))


def are_guards(thing):
    if not isinstance(thing, tuple):
        return False
    return len(thing) <= MOST_GUARDS and all([is_guard(part) for part in thing])


def says(guards, start, goal):
    for whence, whither, word in guards:
        if is_under(start, whence) and is_under(goal, whither):
            return word
    return "let"


def verdict(guards, start, goal):
    leads = 0
    word = says(guards, start, goal)
    while isinstance(word, tuple):
        leads += 1
        if leads > MOST_LEADS:
            raise Round("the guards lead on and on")
        goal = word
        word = says(guards, start, goal)
    return (word, goal)


class GuardedBook(BookHolder):
    def __init__(self, place, most, guards):
        BookHolder.__init__(self, place, most)
        self.guards = guards
        # What waits, as move takes it.
        self.asked = None

    def waits(self):
        return None if self.asked is None else self.asked[0]

    def visit(self, place):
        ruling = verdict(self.guards, self.now(), place)
        return self.carry_out(ruling, None)

    def go(self, by):
        goal = self.book.place_at(by)
        ruling = verdict(self.guards, self.now(), goal)
        return self.carry_out(ruling, by if ruling[1] == goal else None)

    def answer(self, is_yes):
        if self.asked is None:
            raise NotAsked("nothing waits for an answer")
        asked = self.asked
        self.asked = None
        if is_yes:
            self.move(asked[0], asked[1])
        return self.now()

    def carry_out(self, ruling, by):
        # Only behind the verdict, so that one that is refused leaves what waits as it was.
        self.asked = None
        if ruling[0] == "let":
            self.move(ruling[1], by)
        elif ruling[0] == "ask":
            self.asked = (ruling[1], by)
        return ruling[0]
