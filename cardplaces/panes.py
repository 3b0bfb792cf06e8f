"""Panes: several places shown by name, with one row of steps through all of them."""

from cardplaces.errors import NoPane, NoPlace, Taken


def steps_of_others(steps, name):
    return [step for step in steps if step[0] != name]


class Panes:
    def __init__(self):
        self.shown = {}
        # All steps, of which the first so many are made, and those behind are undone.
        self.row = []
        self.made = 0

    def add(self, name, place):
        if name in self.shown:
            raise Taken("a pane has this name")
        self.shown[name] = place

    def place(self, name):
        self.check_name(name)
        return self.shown[name]

    def names(self):
        return sorted(self.shown)

    def visit(self, name, place):
        step = (name, self.place(name), place)
        self.row = self.row[:self.made] + [step]
        self.made += 1
        self.shown[name] = place

    def back(self):
        if self.made == 0:
            raise NoPlace("no step is done")
        self.made -= 1
        step = self.row[self.made]
        self.shown[step[0]] = step[1]
        return step[0]

    def forth(self):
        if self.made == len(self.row):
            raise NoPlace("no step is undone")
        step = self.row[self.made]
        self.made += 1
        self.shown[step[0]] = step[2]
        return step[0]

    def steps(self):
        return list(self.row)

    def done(self):
        return self.made

    def back_in(self, name):
        self.check_name(name)
        if name not in [step[0] for step in self.row[:self.made]]:
            raise NoPlace("no step of this pane is done")
        many = 1
        while self.back() != name:
            many += 1
        return many

    def close(self, name):
        self.check_name(name)
        many = len(self.row)
        # The steps of one pane never tell of another's places, so the rest is whole without them.
        self.made = len(steps_of_others(self.row[:self.made], name))
        self.row = steps_of_others(self.row, name)
        self.shown.pop(name)
        return many - len(self.row)

    def seen(self, name):
        shown = self.place(name)
        steps = [step for step in self.row if step[0] == name]
        if len(steps) == 0:
            return [shown]
        return [steps[0][1]] + [step[2] for step in steps]

    def check_name(self, name):
        if name not in self.shown:
            raise NoPane("no pane has this name")
