"""Texts: places and entries as they are written, and read back."""

from cardplaces.errors import NoText
from cardplaces.places import is_place, place_text

LOOKED_AT = ">"


def lines_of(text):
    # Every line is ended, the last one too; the empty text has none.
    if text != "" and not text.endswith("\n"):
        raise NoText("the last line is not ended")
    return text.split("\n")[:-1]


def read_place(text):
    place = () if text == "/" else tuple(text.split("/")[1:])
    # Written anew, since what stands ahead of the first / is passed over.
    if not is_place(place) or place_text(place) != text:
        raise NoText("no place is written so")
    return place


def entry_line(place, is_looked_at):
    return (LOOKED_AT if is_looked_at else "") + place_text(place) + "\n"


def written(entries, number):
    return "".join([entry_line(place, spot == number) for spot, place in enumerate(entries)])


def read(text):
    lines = lines_of(text)
    spots = [spot for spot, line in enumerate(lines) if line.startswith(LOOKED_AT)]
    if len(spots) != 1:
        raise NoText("one entry is looked at, not none and not several")
    number = spots[0]
    lines[number] = lines[number][len(LOOKED_AT):]
    return ([read_place(line) for line in lines], number)
