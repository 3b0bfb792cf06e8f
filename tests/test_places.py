import itertools
import unittest

from cardplaces.places import is_place, is_under, led, place_text, steps_to

SMALL_PLACES = [words for length in range(4) for words in itertools.product("ab", repeat=length)]
SMALL_STEPS = [steps for length in range(5) for steps in itertools.product((".", "..", "a", "b"), repeat=length)]


def nested(thing, depth):
    for layer in range(depth):
        thing = (thing,) if layer % 2 else [thing]
    return thing


class IsPlaceTest(unittest.TestCase):
    def check(self, thing, wanted):
        told = is_place(thing)
        self.assertIs(told, wanted, repr(thing))

    def test_places(self):
        for thing in [(), ("a",), ("abcd",), ("z", "a"), ("a", "a"), ("card", "of", "the", "far", "off", "sea")]:
            self.check(thing, True)

    def test_how_many_letters(self):
        for many, wanted in [(0, False), (1, True), (3, True), (4, True), (5, False), (400, False)]:
            self.check(("m" * many,), wanted)
            self.check(("ab", "m" * many), wanted)

    def test_all_letters_a_to_z(self):
        for letter in "abcdefghijklmnopqrstuvwxyz":
            self.check((letter,), True)

    def test_letters_that_are_not_a_to_z(self):
        for sign in ["A", "Z", "M", "0", "9", "`", "{", ".", "/", "-", "_", " ", "\n", "\t", "\0",
                     "\u00e4", "\u00df", "\u00aa", "\u0131", "\u0430", "\uff41", "\U0001d41a", "a\u0301"]:
            self.check((sign,), False)
            self.check(("a" + sign,), False)
            self.check((sign + "z",), False)
            self.check(("ab", "c" + sign + "d"), False)

    def test_every_word_counts(self):
        for spot in range(6):
            words = ["ab"] * 6
            words[spot] = "aB"
            self.check(tuple(words), False)

    def test_how_many_words(self):
        for many, wanted in [(0, True), (1, True), (5, True), (6, True), (7, False), (60, False)]:
            self.check(("ab",) * many, wanted)

    def test_lists_in_the_stead_of_tuples(self):
        for thing in [[], ["a"], ["a", "b"], (["a"],), ("a", ["b"]), ([],), [("a",)]]:
            self.check(thing, False)

    def test_things_of_other_kinds(self):
        for thing in [0, 1, -1, 10 ** 30, True, False, None, "", "a", "abcd", "/", "/a", ".", ".."]:
            self.check(thing, False)
            self.check((thing,), thing in ("a", "abcd"))
            self.check(("a", thing), thing in ("a", "abcd"))
            self.check([thing], False)

    def test_steps_are_no_words(self):
        self.check((".",), False)
        self.check(("..",), False)
        self.check(("a", ".."), False)

    def test_deep_things(self):
        for depth in range(1, 13):
            self.check((nested("a", depth),), False)
            self.check(nested((), depth), False)
        self.check(((),), False)
        self.check((("a",),), False)
        deep = "a"
        for layer in range(12):
            deep = (deep,)
            self.check(deep, layer == 0)

    def test_what_is_handed_in_is_not_changed(self):
        thing = ["a", ["b"], ("c",)]
        is_place(thing)
        self.assertEqual(thing, ["a", ["b"], ("c",)])


class IsUnderTest(unittest.TestCase):
    def check(self, place, other, wanted):
        self.assertIs(is_under(place, other), wanted, (place, other))

    def test_ordinary(self):
        self.check(("a", "b", "c"), ("a", "b"), True)
        self.check(("a", "b"), ("a", "b", "c"), False)
        self.check(("a", "b", "c"), ("b",), False)
        self.check(("a", "b"), ("a", "c"), False)
        self.check(("a", "b"), ("b", "a"), False)

    def test_itself(self):
        for place in SMALL_PLACES + [("a",) * 6]:
            self.check(place, place, True)

    def test_the_place_without_words(self):
        for place in SMALL_PLACES:
            self.check(place, (), True)
            self.check((), place, place == ())

    def test_whole_words_count(self):
        self.check(("ab",), ("a",), False)
        self.check(("a", "bc"), ("a", "b"), False)
        self.check(("ab",), ("a", "b"), False)

    def test_all_small_places(self):
        for place, other in itertools.product(SMALL_PLACES, repeat=2):
            fits = len(other) <= len(place) and all(one == two for one, two in zip(place, other))
            self.check(place, other, fits)


def led_by_hand(place, steps):
    if not steps:
        return place
    if steps[0] == "..":
        return led_by_hand(place[:-1], steps[1:]) if place else None
    if steps[0] == ".":
        return led_by_hand(place, steps[1:])
    return led_by_hand(place + (steps[0],), steps[1:]) if len(place) < 6 else None


class LedTest(unittest.TestCase):
    def test_ordinary(self):
        self.assertEqual(led(("a", "b"), ("..", "c", ".", "d")), ("a", "c", "d"))
        self.assertEqual(led((), ("a",)), ("a",))
        self.assertEqual(led(("a",), ("..",)), ())
        self.assertEqual(led(("a",), (".",)), ("a",))
        self.assertEqual(led((), (".", ".")), ())

    def test_no_steps(self):
        for place in [(), ("a",), ("a",) * 6]:
            self.assertEqual(led(place, ()), place)

    def test_the_place_told_is_a_tuple(self):
        self.assertIsInstance(led(("a",), ("b",)), tuple)
        self.assertIsInstance(led((), ()), tuple)

    def test_up_from_the_place_without_words(self):
        self.assertIsNone(led((), ("..",)))
        self.assertIsNone(led(("a",), ("..", "..")))
        self.assertIsNone(led(("a",), ("..", "..", "a")))
        self.assertIsNone(led((), ("..", "a", "b")))
        self.assertIsNone(led((), (".", "..")))

    def test_six_words_are_let(self):
        self.assertEqual(led(("a",) * 5, ("b",)), ("a",) * 5 + ("b",))
        self.assertEqual(led((), tuple("abcdef")), tuple("abcdef"))
        self.assertEqual(led(("a",) * 6, (".",)), ("a",) * 6)
        self.assertEqual(led(("a",) * 6, ("..", "b")), ("a",) * 5 + ("b",))

    def test_more_than_six_words(self):
        self.assertIsNone(led(("a",) * 6, ("b",)))
        self.assertIsNone(led((), tuple("abcdefg")))
        self.assertIsNone(led(("a",) * 5, ("b", ".", "c")))

    def test_more_than_six_words_on_the_way(self):
        self.assertIsNone(led(("a",) * 6, ("b", "..")))
        self.assertIsNone(led(("a",) * 5, ("b", "c", "..", "..", "..")))
        self.assertIsNone(led(("a",) * 6, ("b", "..", "..", "..", "..", "..", "..", "..")))

    def test_all_small_ways(self):
        for place in SMALL_PLACES + [("a",) * 5, ("a",) * 6]:
            for steps in SMALL_STEPS:
                self.assertEqual(led(place, steps), led_by_hand(place, steps), (place, steps))


class StepsToTest(unittest.TestCase):
    def test_down_to_a_place_under_it(self):
        self.assertEqual(steps_to(("a",), ("a", "b", "c")), ("b", "c"))
        self.assertEqual(steps_to((), ("a", "b")), ("a", "b"))

    def test_up_to_a_place_above_it(self):
        self.assertEqual(steps_to(("a", "b", "c"), ("a",)), ("..", ".."))
        self.assertEqual(steps_to(("a", "b"), ()), ("..", ".."))

    def test_neither_under_the_other(self):
        self.assertEqual(steps_to(("a", "b", "c"), ("a", "d")), ("..", "..", "d"))
        self.assertEqual(steps_to(("a",), ("b",)), ("..", "b"))
        self.assertEqual(steps_to(("ab",), ("ac", "d")), ("..", "ac", "d"))

    def test_words_that_are_alike_again_later(self):
        self.assertEqual(steps_to(("a", "b", "c"), ("a", "d", "c")), ("..", "..", "d", "c"))
        self.assertEqual(steps_to(("a", "b"), ("b", "b")), ("..", "..", "b", "b"))

    def test_to_itself(self):
        for place in [(), ("a",), ("a",) * 6]:
            self.assertEqual(steps_to(place, place), ())

    def test_between_long_places(self):
        place = tuple("abcdef")
        other = tuple("ghijkl")
        self.assertEqual(steps_to(place, other), ("..",) * 6 + other)
        self.assertEqual(led(place, steps_to(place, other)), other)

    def test_the_steps_lead_there(self):
        for place, other in itertools.product(SMALL_PLACES + [("a",) * 6, ("a", "b") * 3], repeat=2):
            steps = steps_to(place, other)
            self.assertIsInstance(steps, tuple)
            self.assertEqual(led(place, steps), other, (place, other))

    def test_none_are_fewer(self):
        short = [place for place in SMALL_PLACES if len(place) <= 2]
        for place, other in itertools.product(short, repeat=2):
            fewest = min(len(steps) for steps in SMALL_STEPS if led(place, steps) == other)
            self.assertEqual(len(steps_to(place, other)), fewest, (place, other))


class PlaceTextTest(unittest.TestCase):
    def test_texts(self):
        self.assertEqual(place_text(()), "/")
        self.assertEqual(place_text(("a",)), "/a")
        self.assertEqual(place_text(("card",)), "/card")
        self.assertEqual(place_text(("a", "bc")), "/a/bc")
        self.assertEqual(place_text(("a", "bc", "def", "ghij", "k", "l")), "/a/bc/def/ghij/k/l")


if __name__ == "__main__":
    unittest.main()
