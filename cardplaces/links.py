"""Links: they lead on when they are pressed; and the ways that they make."""

from cardplaces.books import BookHolder
from cardplaces.places import is_place, is_under, is_word, led

STEP_KINDS = ("open", "replace")
STEPS_THAT_STAY_OR_RISE = (".", "..")
MOST_LINKS = 12
MOST_STEPS = 4
FURTHEST = 9


def is_step(thing):
    return is_word(thing) or thing in STEPS_THAT_STAY_OR_RISE


def are_steps(thing):
    if not isinstance(thing, tuple):
        return False
    return len(thing) <= MOST_STEPS and all([is_step(part) for part in thing])


def is_way(thing):
    if not isinstance(thing, int) or isinstance(thing, bool):
        return False
    return -FURTHEST <= thing <= FURTHEST


def is_link(thing):
    if not isinstance(thing, tuple) or len(thing) != 4:
        return False
    if not is_place(thing[0]) or not is_word(thing[1]):
        return False
    if thing[2] == "go":
        return is_way(thing[3])
    return thing[2] in STEP_KINDS and are_steps(thing[3])


def are_links(thing):
    if not isinstance(thing, tuple):
        return False
    return len(thing) <= MOST_LINKS and all([is_link(part) for part in thing])


def link_at(links, place, word):
    for link in links:
        if link[1] == word and is_under(place, link[0]):
            return link
    return None


def words_at(links, place):
    return sorted(set([link[1] for link in links if is_under(place, link[0])]))


def goal_of(link, place):
    return None if link[2] == "go" else led(place, link[3])


def next_places(links, place):
    told = []
    for word in words_at(links, place):
        goal = goal_of(link_at(links, place, word), place)
        if goal is not None:
            told.append((word, goal))
    return told


def ways_from(links, start, goal):
    # By rings of as many words each, so the first way found is as short as can be; all ways where the goal is None.
    ways = {start: ()}
    ring = [start]
    while len(ring) > 0 and goal not in ways:
        further = []
        for place in ring:
            for word, beyond in next_places(links, place):
                if beyond not in ways:
                    ways[beyond] = ways[place] + (word,)
                    further.append(beyond)
        ring = further
    return ways


def shortest(links, start, goal):
    return ways_from(links, start, goal).get(goal)


def reached(links, start):
    return sorted(ways_from(links, start, None))


def leads_on(links, place):
    return any([goal != place for word, goal in next_places(links, place)])


def dead_ends(links, start):
    return [place for place in reached(links, start) if not leads_on(links, place)]


class Presser(BookHolder):
    def __init__(self, links, place, most):
        BookHolder.__init__(self, place, most)
        self.links = links

    def press(self, word):
        link = link_at(self.links, self.now(), word)
        if link is None:
            return False
        if link[2] == "go":
            return self.try_go(link[3])
        return self.try_lead(link)

    def try_go(self, by):
        if not self.book.can_go(by):
            return False
        self.book.go(by)
        return True

    def try_lead(self, link):
        goal = goal_of(link, self.now())
        if goal is None:
            return False
        if link[2] == "open":
            self.book.visit(goal)
        else:
            self.book.replace(goal)
        return True
