"""Rings as texts: as they are written, and read back."""

from cardplaces.errors import NoText
from cardplaces.places import is_word, place_text
from cardplaces.rings import ring_of
from cardplaces.texts import lines_of, read_place


def ring_line(word, place):
    return word + " " + place_text(place) + "\n"


def ring_text(ring):
    return "".join([ring_line(word, ring.find(word)) for word in ring.words()])


def read_ring(text):
    places = {}
    for line in lines_of(text):
        parts = line.split(" ")
        if len(parts) != 2 or not is_word(parts[0]):
            raise NoText("no word and its place are written so")
        places[parts[0]] = read_place(parts[1])
    ring = ring_of(places)
    # Written anew, since lines that don't rise and words that are there twice are read all the same.
    if ring_text(ring) != text:
        raise NoText("the words don't rise")
    return ring
