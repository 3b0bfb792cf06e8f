"""Visits: what a list of places gone to tells."""

from cardplaces.places import is_under


def trail(places):
    told = []
    for place in places:
        if place in told:
            told = told[:told.index(place) + 1]
        else:
            told.append(place)
    return told


def counts(places):
    many = {}
    for place in places:
        many[place] = many.get(place, 0) + 1
    return many


def last_first(places):
    # A dict keeps the order in which keys came, each once.
    once = {}
    for place in reversed(places):
        once[place] = True
    return list(once)


def at_most(places, most):
    # A number below 0 would count from the end of the list.
    return places[:max(most, 0)]


def recent(places, most):
    return at_most(last_first(places), most)


def oftenest(places, most):
    many = counts(places)
    # As often ones stay in the order in which they are sorted: those there last come first.
    return at_most(sorted(last_first(places), key=lambda place: -many[place]), most)


def under(places, other):
    return len([place for place in places if is_under(place, other)])


def branches(places, other):
    length = len(other)
    words = [place[length] for place in places if is_under(place, other) and len(place) > length]
    return sorted(counts(words).items())


def stays(places, moments, end):
    told = {}
    ends = list(moments[1:]) + [end]
    for place, moment, until in zip(places, moments, ends):
        told[place] = told.get(place, 0) + until - moment
    return told
