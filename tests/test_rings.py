import itertools
import unittest

from cardplaces.errors import NoPlace
from cardplaces.rings import Ring

A, B, C, D, AB, AC, ABC = ("a",), ("b",), ("c",), ("d",), ("a", "b"), ("a", "c"), ("a", "b", "c")
SIX = tuple("abcdef")


def ring_with(places):
    ring = Ring()
    for word in places:
        ring.keep(word, places[word])
    return ring


class RingTest(unittest.TestCase):
    def check(self, ring, places, sizes):
        self.assertEqual(ring.words(), sorted(places))
        self.assertEqual({word: ring.find(word) for word in ring.words()}, places)
        self.assertEqual(ring.sizes(), sizes)
        self.assertIsInstance(ring.sizes(), tuple)

    def check_to_the_end(self, ring, rows):
        """The rows: what the ring keeps behind each step, from none on, and the step's name; it is at the last."""
        most = len(rows) - 1
        for turn in range(2):
            self.check(ring, rows[most][0], (most, 0))
            for made in reversed(range(most)):
                self.assertEqual(ring.back(), rows[made + 1][1])
                self.check(ring, rows[made][0], (made, most - made))
            self.assertRaises(NoPlace, ring.back)
            self.check(ring, rows[0][0], (0, most))
            for made in range(1, most + 1):
                self.assertEqual(ring.forth(), rows[made][1])
                self.check(ring, rows[made][0], (made, most - made))
            self.assertRaises(NoPlace, ring.forth)


class KeepTest(RingTest):
    def test_at_first(self):
        self.check(Ring(), {}, (0, 0))
        self.assertEqual(Ring().words(), [])
        self.assertEqual(Ring().words_under(()), [])

    def test_a_new_word(self):
        ring = Ring()
        self.assertIsNone(ring.keep("home", A))
        self.check(ring, {"home": A}, (1, 0))
        self.assertIsNone(ring.keep("b", ()))
        self.check(ring, {"home": A, "b": ()}, (2, 0))

    def test_a_word_that_stands_for_a_place(self):
        ring = ring_with({"x": A, "y": B})
        self.assertEqual(ring.keep("x", C), A)
        self.check(ring, {"x": C, "y": B}, (3, 0))
        self.assertEqual(ring.keep("x", C), C)
        self.check(ring, {"x": C, "y": B}, (4, 0))
        self.assertEqual(ring.keep("y", A), B)
        self.check(ring, {"x": C, "y": A}, (5, 0))

    def test_a_word_that_stood_for_the_place_without_words(self):
        ring = ring_with({"x": ()})
        self.assertEqual(ring.keep("x", A), ())
        self.assertEqual(ring.keep("x", ()), A)
        self.check(ring, {"x": ()}, (3, 0))

    def test_a_word_that_was_lost(self):
        ring = ring_with({"x": A})
        ring.lose("x")
        self.assertIsNone(ring.keep("x", B))
        self.check(ring, {"x": B}, (3, 0))

    def test_several_words_for_one_place(self):
        self.check(ring_with({"x": A, "y": A}), {"x": A, "y": A}, (2, 0))

    def test_rings_are_apart(self):
        one, other = Ring(), Ring()
        one.keep("x", A)
        self.check(other, {}, (0, 0))
        other.keep("x", B)
        self.check(one, {"x": A}, (1, 0))


class FindAndLoseTest(RingTest):
    def test_find(self):
        ring = ring_with({"x": A, "y": (), "abcd": SIX})
        self.assertEqual([ring.find("x"), ring.find("y"), ring.find("abcd")], [A, (), SIX])
        self.check(ring, {"x": A, "y": (), "abcd": SIX}, (3, 0))

    def test_lose(self):
        ring = ring_with({"x": A, "y": (), "z": A})
        self.assertEqual(ring.lose("x"), A)
        self.check(ring, {"y": (), "z": A}, (4, 0))
        self.assertEqual(ring.lose("y"), ())
        self.assertEqual(ring.lose("z"), A)
        self.check(ring, {}, (6, 0))

    def test_none(self):
        ring = ring_with({"x": A, "y": B})
        ring.lose("y")
        ring.keep("z", C)
        ring.back()
        for word in ["y", "z", "a", "xx", "b"]:
            self.assertRaises(NoPlace, ring.find, word)
            self.assertRaises(NoPlace, ring.lose, word)
            self.check(ring, {"x": A}, (3, 1))
        self.assertRaises(NoPlace, Ring().find, "x")
        self.assertRaises(NoPlace, Ring().lose, "x")

    def test_lost_twice(self):
        ring = ring_with({"x": A})
        ring.lose("x")
        self.assertRaises(NoPlace, ring.lose, "x")
        self.check(ring, {}, (2, 0))


class WordsTest(RingTest):
    def test_they_rise(self):
        for words in itertools.permutations(["b", "a", "ab", "aa", "z"]):
            ring = ring_with({word: A for word in words})
            self.assertEqual(ring.words(), ["a", "aa", "ab", "b", "z"])
            self.assertEqual(ring.words_under(A), ["a", "aa", "ab", "b", "z"])

    def test_words_under(self):
        ring = ring_with({"z": A, "y": AB, "x": ABC, "w": ("ab",), "v": (), "u": B, "t": ("b", "a")})
        for place, words in [((), list("tuvwxyz")), (A, list("xyz")), (AB, list("xy")), (ABC, ["x"]), (AC, []),
                             (("ab",), ["w"]), (B, list("tu")), (C, []), (("a", "b", "c", "d"), [])]:
            self.assertEqual(ring.words_under(place), words)
            self.assertEqual(ring.sizes(), (7, 0))

    def test_told_lists_changed_by_whoever_got_them(self):
        places = {"x": A, "y": AB}
        ring = ring_with(places)
        for told in (ring.words, lambda: ring.words_under(()), lambda: ring.words_under(A)):
            self.assertIsInstance(told(), list)
            told().append("z")
            told().clear()
            told()[0] = "z"
            self.assertEqual(told(), ["x", "y"])
        self.check(ring, places, (2, 0))


class ShiftTest(RingTest):
    PLACES = {"a": A, "b": AB, "c": ABC, "d": ("ab", "b"), "e": B, "f": (), "g": ("b", "a", "b")}

    def shifted(self, old, new, many, changed):
        ring = ring_with(self.PLACES)
        self.assertEqual(ring.shift(old, new), many)
        self.check(ring, {**self.PLACES, **changed}, (8, 0))
        self.assertEqual(ring.back(), "shift")
        self.check(ring, self.PLACES, (7, 1))
        self.assertEqual(ring.forth(), "shift")
        self.check(ring, {**self.PLACES, **changed}, (8, 0))

    def test_to_an_equally_long_one(self):
        self.shifted(A, ("z",), 3, {"a": ("z",), "b": ("z", "b"), "c": ("z", "b", "c")})
        self.shifted(AB, ("y", "z"), 2, {"b": ("y", "z"), "c": ("y", "z", "c")})

    def test_to_a_longer_one(self):
        self.shifted(A, ("y", "z"), 3, {"a": ("y", "z"), "b": ("y", "z", "b"), "c": ("y", "z", "b", "c")})
        self.shifted(B, tuple("uvw"), 2, {"e": tuple("uvw"), "g": tuple("uvwab")})

    def test_to_a_shorter_one(self):
        self.shifted(AB, ("z",), 2, {"b": ("z",), "c": ("z", "c")})
        self.shifted(ABC, (), 1, {"c": ()})

    def test_of_none(self):
        for old in [C, AC, ("a", "b", "c", "d"), ("abc",)]:
            for new in [(), A, old, SIX]:
                self.shifted(old, new, 0, {})

    def test_in_a_ring_without_words(self):
        ring = Ring()
        self.assertEqual(ring.shift((), A), 0)
        self.check(ring, {}, (1, 0))

    def test_the_place_without_words_as_old(self):
        self.shifted((), ("z",), 7, {word: ("z",) + self.PLACES[word] for word in self.PLACES})
        self.shifted((), A, 7, {word: A + self.PLACES[word] for word in self.PLACES})

    def test_the_place_without_words_as_new(self):
        self.shifted(A, (), 3, {"a": (), "b": B, "c": ("b", "c")})
        self.shifted((), (), 7, {})

    def test_to_itself(self):
        self.shifted(A, A, 3, {})
        self.shifted(AB, AB, 2, {})

    def test_to_one_under_it(self):
        self.shifted(A, AB, 3, {"a": AB, "b": ("a", "b", "b"), "c": ("a", "b", "b", "c")})
        self.shifted(A, ("a", "a"), 3, {"a": ("a", "a"), "b": ("a", "a", "b"), "c": ("a", "a", "b", "c")})

    def test_to_one_above_it(self):
        self.shifted(AB, A, 2, {"b": A, "c": AC})

    def test_only_the_beginning_counts(self):
        ring = ring_with({"x": ("a", "b", "a", "b"), "y": ("b", "a")})
        self.assertEqual(ring.shift(A, C), 1)
        self.check(ring, {"x": ("c", "b", "a", "b"), "y": ("b", "a")}, (3, 0))

    def test_six_words_are_let(self):
        ring = ring_with({"x": A, "y": AB, "z": SIX[1:]})
        self.assertEqual(ring.shift(A, tuple("vwxyz")), 2)
        self.check(ring, {"x": tuple("vwxyz"), "y": tuple("vwxyz") + B, "z": SIX[1:]}, (4, 0))
        self.assertEqual(ring_with({"x": A}).shift(A, SIX), 1)
        self.assertEqual(ring_with({"x": SIX}).shift((), ()), 1)
        self.assertEqual(ring_with({"x": SIX}).shift(A, B), 1)
        self.assertEqual(ring_with({"x": SIX[1:]}).shift((), A), 1)

    def test_more_than_six_words(self):
        # The words' order counts for nothing: the too long one is first, in the middle and last.
        for words in itertools.permutations("xyz"):
            places = dict(zip(words, [A, ("a", "b", "c", "d", "e"), AB]))
            ring = ring_with({**places, "w": C})
            ring.keep("w", B)
            ring.back()
            for old, new in [(A, tuple("xyz")), (A, tuple("uvwxyz")), ((), AB), (AB, tuple("vwxy"))]:
                self.assertRaises(NoPlace, ring.shift, old, new)
                self.check(ring, {**places, "w": C}, (4, 1))
            self.assertEqual(ring.forth(), "keep")
            self.check(ring, {**places, "w": B}, (5, 0))

    def test_more_than_six_words_of_all(self):
        ring = ring_with({"x": SIX})
        self.assertRaises(NoPlace, ring.shift, (), A)
        self.assertRaises(NoPlace, ring.shift, SIX, SIX + A)
        self.check(ring, {"x": SIX}, (1, 0))

    def test_long_ones_that_are_not_under_it_count_for_nothing(self):
        ring = ring_with({"x": SIX, "y": B})
        self.assertEqual(ring.shift(B, SIX), 1)
        self.check(ring, {"x": SIX, "y": SIX}, (3, 0))
        self.assertEqual(ring.shift(C, SIX), 0)


class BackAndForthTest(RingTest):
    def test_keep_lose_and_shift(self):
        ring = Ring()
        ring.keep("x", A)
        ring.keep("y", AB)
        ring.keep("x", B)
        ring.shift(A, C)
        ring.lose("x")
        ring.shift((), A)
        ring.lose("y")
        self.check_to_the_end(ring, [({}, None), ({"x": A}, "keep"), ({"x": A, "y": AB}, "keep"),
                                     ({"x": B, "y": AB}, "keep"), ({"x": B, "y": ("c", "b")}, "shift"),
                                     ({"y": ("c", "b")}, "lose"), ({"y": ("a", "c", "b")}, "shift"), ({}, "lose")])

    def test_steps_that_changed_nothing(self):
        ring = Ring()
        ring.shift(A, B)
        ring.keep("x", A)
        ring.keep("x", A)
        ring.shift(B, C)
        ring.shift(A, A)
        ring.keep("y", ())
        ring.keep("y", ())
        self.check_to_the_end(ring, [({}, None), ({}, "shift"), ({"x": A}, "keep"), ({"x": A}, "keep"),
                                     ({"x": A}, "shift"), ({"x": A}, "shift"), ({"x": A, "y": ()}, "keep"),
                                     ({"x": A, "y": ()}, "keep")])

    def test_a_shift_onto_a_place_that_others_have(self):
        ring = ring_with({"x": A, "y": B})
        ring.shift(A, B)
        self.check(ring, {"x": B, "y": B}, (3, 0))
        ring.back()
        self.check(ring, {"x": A, "y": B}, (2, 1))

    def test_without_any(self):
        ring = Ring()
        self.assertRaises(NoPlace, ring.back)
        self.assertRaises(NoPlace, ring.forth)
        self.check(ring, {}, (0, 0))

    def test_at_their_ends(self):
        ring = ring_with({"x": A, "y": B})
        self.assertRaises(NoPlace, ring.forth)
        self.check(ring, {"x": A, "y": B}, (2, 0))
        ring.back()
        ring.back()
        self.assertRaises(NoPlace, ring.back)
        self.check(ring, {}, (0, 2))
        self.assertEqual([ring.forth(), ring.forth()], ["keep", "keep"])
        self.assertRaises(NoPlace, ring.forth)
        self.check(ring, {"x": A, "y": B}, (2, 0))

    def test_forth_behind_a_new_step(self):
        for deed, places in [(("keep", "z", D), {"x": A, "z": D}), (("keep", "x", A), {"x": A}),
                             (("keep", "y", B), {"x": A, "y": B}), (("lose", "x"), {}),
                             (("shift", A, C), {"x": C}), (("shift", D, C), {"x": A})]:
            ring = ring_with({"x": A, "y": B})
            ring.lose("y")
            ring.back()
            ring.back()
            self.check(ring, {"x": A}, (1, 2))
            getattr(ring, deed[0])(*deed[1:])
            self.check(ring, places, (2, 0))
            self.assertRaises(NoPlace, ring.forth)
            self.check(ring, places, (2, 0))
            self.assertEqual(ring.back(), deed[0])
            self.check(ring, {"x": A}, (1, 1))
            self.assertEqual(ring.forth(), deed[0])
            self.check(ring, places, (2, 0))

    def test_what_is_refused_leaves_what_can_be_done_again(self):
        ring = ring_with({"x": SIX, "y": B})
        ring.lose("y")
        ring.back()
        ring.back()
        for deed in [("lose", "y"), ("find", "y"), ("shift", A, AB), ("shift", (), A)]:
            self.assertRaises(NoPlace, getattr(ring, deed[0]), *deed[1:])
            self.check(ring, {"x": SIX}, (1, 2))
        self.assertEqual([ring.forth(), ring.forth()], ["keep", "lose"])
        self.check(ring, {"x": SIX}, (3, 0))

    def test_what_only_tells_is_no_step(self):
        ring = ring_with({"x": A, "y": B})
        ring.back()
        ring.find("x")
        ring.words()
        ring.words_under(())
        ring.sizes()
        ring.twin()
        self.check(ring, {"x": A}, (1, 1))
        self.assertEqual(ring.forth(), "keep")


class TwinTest(RingTest):
    def ring(self):
        """Two words, a step to take back of each kind, and two to do again."""
        ring = ring_with({"x": A, "y": B, "z": C})
        ring.lose("z")
        ring.shift(B, AB)
        ring.keep("x", D)
        ring.lose("y")
        ring.back()
        ring.back()
        return ring

    ROWS = [({}, None), ({"x": A}, "keep"), ({"x": A, "y": B}, "keep"), ({"x": A, "y": B, "z": C}, "keep"),
            ({"x": A, "y": B}, "lose"), ({"x": A, "y": AB}, "shift"), ({"x": D, "y": AB}, "keep"), ({"x": D}, "lose")]

    def check_whole(self, ring):
        self.check(ring, {"x": A, "y": AB}, (5, 2))
        self.assertEqual([ring.forth(), ring.forth()], ["keep", "lose"])
        self.check_to_the_end(ring, self.ROWS)

    def test_as_this_one(self):
        ring = self.ring()
        twin = ring.twin()
        self.assertIsInstance(twin, Ring)
        self.assertIsNot(twin, ring)
        self.check_whole(twin)
        self.check_whole(ring)

    def test_of_a_ring_without_words(self):
        ring = Ring()
        twin = ring.twin()
        twin.keep("x", A)
        self.check(ring, {}, (0, 0))
        self.check(twin, {"x": A}, (1, 0))
        self.assertRaises(NoPlace, ring.back)

    def test_changed_on_either_side(self):
        deeds = [[("keep", "x", C)], [("keep", "w", C)], [("lose", "x")], [("shift", A, C)], [("shift", (), C)],
                 [("back",)], [("forth",)], [("back",)] * 5, [("forth",)] * 2, [("back",), ("keep", "x", ())],
                 [("forth",), ("lose", "y"), ("back",), ("back",), ("shift", AB, B)]]
        for row in deeds:
            ring = self.ring()
            twin = ring.twin()
            for deed in row:
                getattr(twin, deed[0])(*deed[1:])
            self.check_whole(ring)
            ring = self.ring()
            twin = ring.twin()
            for deed in row:
                getattr(ring, deed[0])(*deed[1:])
            self.check_whole(twin)

    def test_changed_on_both_sides(self):
        ring = self.ring()
        twin = ring.twin()
        ring.keep("v", C)
        twin.lose("x")
        twin.shift(AB, ())
        self.check(ring, {"v": C, "x": A, "y": AB}, (6, 0))
        self.check(twin, {"y": ()}, (7, 0))
        self.assertEqual([twin.back(), twin.back(), twin.back()], ["shift", "lose", "shift"])
        self.assertEqual([ring.back(), ring.back()], ["keep", "shift"])
        self.check(ring, {"x": A, "y": B}, (4, 2))
        self.check(twin, {"x": A, "y": B}, (4, 3))
        self.assertEqual([twin.forth(), twin.forth()], ["shift", "lose"])
        self.assertEqual([ring.forth(), ring.forth()], ["shift", "keep"])
        self.check(ring, {"v": C, "x": A, "y": AB}, (6, 0))
        self.check(twin, {"y": AB}, (6, 1))

    def test_a_twin_of_a_twin(self):
        ring = self.ring()
        twin = ring.twin()
        third = twin.twin()
        twin.keep("x", C)
        third.forth()
        third.forth()
        third.lose("x")
        self.check(ring, {"x": A, "y": AB}, (5, 2))
        self.check(twin, {"x": C, "y": AB}, (6, 0))
        self.check(third, {}, (8, 0))
        self.check_whole(ring)
        self.assertEqual([third.back(), third.back(), third.back()], ["lose", "lose", "keep"])
        self.check(third, {"x": A, "y": AB}, (5, 3))
        self.check(twin, {"x": C, "y": AB}, (6, 0))


class WholeRingTest(RingTest):
    """All rows of some deeds, against a model that keeps what a ring held behind each of its steps."""

    DEEDS = [("keep", "x", A), ("keep", "x", ("a", "b", "c", "d", "e")), ("keep", "y", AB), ("lose", "x"),
             ("lose", "y"), ("shift", A, tuple("cd")), ("shift", (), A), ("shift", AB, ()), ("back",), ("forth",)]

    def model_shift(self, places, old, new):
        hit = [word for word in places if places[word][:len(old)] == old]
        moved = {word: new + places[word][len(old):] for word in hit}
        if [word for word in hit if len(moved[word]) > 6]:
            return NoPlace, None
        return len(hit), {**places, **moved}

    def model_step(self, places, deed):
        """What is told, and what is kept behind it, None where it is refused."""
        if deed[0] == "keep":
            return places.get(deed[1]), {**places, deed[1]: deed[2]}
        if deed[0] == "shift":
            return self.model_shift(places, deed[1], deed[2])
        if deed[1] not in places:
            return NoPlace, None
        return places[deed[1]], {word: places[word] for word in places if word != deed[1]}

    def model_deed(self, model, deed):
        rows, made = model
        if deed[0] == "back":
            return (rows[made][1], (rows, made - 1)) if made else (NoPlace, model)
        if deed[0] == "forth":
            return (rows[made + 1][1], (rows, made + 1)) if made + 1 < len(rows) else (NoPlace, model)
        wanted, places = self.model_step(rows[made][0], deed)
        if places is None:
            return wanted, model
        return wanted, (rows[:made + 1] + [(places, deed[0])], made + 1)

    def run_row(self, deeds):
        ring, model = Ring(), ([({}, None)], 0)
        for deed in deeds:
            twin, ahead = ring.twin(), model
            wanted, model = self.model_deed(model, deed)
            call = getattr(ring, deed[0])
            if wanted is NoPlace:
                self.assertRaises(NoPlace, call, *deed[1:])
            else:
                self.assertEqual(call(*deed[1:]), wanted)
            for one, (rows, made) in [(ring, model), (twin, ahead)]:
                self.check(one, rows[made][0], (made, len(rows) - 1 - made))

    def test_all_rows(self):
        for deeds in itertools.product(self.DEEDS, repeat=4):
            self.run_row(deeds)

    def test_all_rows_behind_some_steps(self):
        steps = (("keep", "x", A), ("keep", "y", AB), ("shift", A, C), ("lose", "y"), ("back",), ("back",))
        for deeds in itertools.product(self.DEEDS, repeat=3):
            self.run_row(steps + deeds)


if __name__ == "__main__":
    unittest.main()
