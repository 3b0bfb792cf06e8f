"""Rings: words that stand for places, and the steps that made them so, back and forth."""

from cardplaces.errors import NoPlace
from cardplaces.places import is_too_long, is_under


class Ring:
    def __init__(self):
        self.kept = {}
        # All steps, of which the first so many are made, and those behind are taken back. A step is a tuple of its name
        # and its changes: each a word, its place ahead of the step, and that behind it, None where it stands for none.
        self.row = []
        self.made = 0

    def keep(self, word, place):
        stood = self.kept.get(word)
        self.make_step("keep", [(word, stood, place)])
        return stood

    def find(self, word):
        if word not in self.kept:
            raise NoPlace("this word stands for no place")
        return self.kept[word]

    def lose(self, word):
        stood = self.find(word)
        self.make_step("lose", [(word, stood, None)])
        return stood

    def words(self):
        return sorted(self.kept)

    def words_under(self, place):
        return [word for word in self.words() if is_under(self.kept[word], place)]

    def shift(self, old, new):
        changes = []
        for word in self.words_under(old):
            place = self.kept[word]
            shifted = new + place[len(old):]
            if is_too_long(shifted):
                raise NoPlace("a place would have too many words")
            changes.append((word, place, shifted))
        self.make_step("shift", changes)
        return len(changes)

    def back(self):
        if self.made == 0:
            raise NoPlace("no step can be taken back")
        self.made -= 1
        step = self.row[self.made]
        for word, ahead, behind in step[1]:
            self.put(word, ahead)
        return step[0]

    def forth(self):
        if self.made == len(self.row):
            raise NoPlace("no step can be done again")
        step = self.row[self.made]
        self.made += 1
        for word, ahead, behind in step[1]:
            self.put(word, behind)
        return step[0]

    def sizes(self):
        return (self.made, len(self.row) - self.made)

    def twin(self):
        other = ring_of(self.kept)
        # The steps themselves are tuples through and through, so both rings may hold them.
        other.row = list(self.row)
        other.made = self.made
        return other

    def make_step(self, name, changes):
        self.row = self.row[:self.made] + [(name, tuple(changes))]
        self.forth()

    def put(self, word, place):
        if place is None:
            self.kept.pop(word)
        else:
            self.kept[word] = place


def ring_of(places):
    # Not by keep, which would leave steps to take back.
    ring = Ring()
    ring.kept = dict(places)
    return ring
