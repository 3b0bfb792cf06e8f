"""Places: tuples of words, and the steps between them."""

MOST_WORDS = 6
MOST_LETTERS = 4


def is_letter(sign):
    return "a" <= sign <= "z"


def is_word(thing):
    if not isinstance(thing, str):
        return False
    return 1 <= len(thing) <= MOST_LETTERS and all([is_letter(sign) for sign in thing])


def is_too_long(words):
    return len(words) > MOST_WORDS


def is_place(thing):
    if not isinstance(thing, tuple):
        return False
    return not is_too_long(thing) and all([is_word(part) for part in thing])


def is_under(place, other):
    return place[:len(other)] == other


def led(place, steps):
    words = list(place)
    for step in steps:
        if step == "..":
            if len(words) == 0:
                return None
            words.pop()
        elif step != ".":
            words.append(step)
            # Later steps up don't mend this: each step must lead to a place.
            if is_too_long(words):
                return None
    return tuple(words)


def shared_length(place, other):
    length = 0
    for pair in zip(place, other):
        if pair[0] != pair[1]:
            break
        length += 1
    return length


def steps_to(place, other):
    shared = shared_length(place, other)
    return ("..",) * (len(place) - shared) + other[shared:]


def place_text(place):
    return "/" + "/".join(place)
