"""Roots: the places that others are under."""

from cardplaces.places import shared_length


def above(place):
    return [place[:length] for length in range(len(place) + 1)]


def common(places):
    if len(places) == 0:
        return None
    shared = places[0]
    for place in places:
        shared = shared[:shared_length(shared, place)]
    return shared


def all_above(places):
    found = {}
    for place in places:
        for root in above(place):
            found[root] = True
    return sorted(found)


def tree_line(place, is_among):
    name = "/" if len(place) == 0 else place[-1]
    return "  " * len(place) + name + (" *" if is_among else "") + "\n"


def tree_text(places):
    return "".join([tree_line(root, root in places) for root in all_above(places)])
