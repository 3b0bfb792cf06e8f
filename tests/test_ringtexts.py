import itertools
import unittest

from cardplaces.errors import NoPlace, NoText
from cardplaces.rings import Ring
from cardplaces.ringtexts import read_ring, ring_text

A, B, AB = ("a",), ("b",), ("a", "b")
SIX = ("card", "of", "the", "far", "off", "sea")
CASES = [({}, ""), ({"x": ()}, "x /\n"), ({"x": A}, "x /a\n"), ({"home": SIX}, "home /card/of/the/far/off/sea\n"),
         ({"y": A, "x": B}, "x /b\ny /a\n"), ({"b": A, "ab": (), "aa": A, "a": AB}, "a /a/b\naa /a\nab /\nb /a\n")]


def ring_with(places):
    ring = Ring()
    for word in places:
        ring.keep(word, places[word])
    return ring


def places_of(ring):
    return {word: ring.find(word) for word in ring.words()}


class RingTextTest(unittest.TestCase):
    def test_written(self):
        for places, text in CASES:
            self.assertEqual(ring_text(ring_with(places)), text)

    def test_rising(self):
        for words in itertools.permutations(["b", "a", "ab", "aa"]):
            self.assertEqual(ring_text(ring_with({word: A for word in words})), "a /a\naa /a\nab /a\nb /a\n")

    def test_steps_are_not_written(self):
        ring = ring_with({"x": A, "y": B, "z": AB})
        ring.lose("z")
        ring.keep("y", ())
        ring.shift(A, AB)
        self.assertEqual(ring_text(ring), "x /a/b\ny /\n")
        ring.back()
        self.assertEqual(ring_text(ring), "x /a\ny /\n")
        ring.lose("x")
        ring.lose("y")
        self.assertEqual(ring_text(ring), "")

    def test_the_ring_is_not_changed(self):
        ring = ring_with({"x": A, "y": B, "z": AB})
        ring.back()
        for turn in range(2):
            self.assertEqual(ring_text(ring), "x /a\ny /b\n")
            self.assertEqual((places_of(ring), ring.sizes()), ({"x": A, "y": B}, (2, 1)))


class ReadRingTest(unittest.TestCase):
    def test_read(self):
        for places, text in CASES:
            ring = read_ring(text)
            self.assertIsInstance(ring, Ring)
            self.assertEqual(ring.words(), sorted(places))
            self.assertEqual(places_of(ring), places)
            self.assertEqual(ring.sizes(), (0, 0))
            self.assertRaises(NoPlace, ring.back)
            self.assertRaises(NoPlace, ring.forth)
            self.assertEqual(ring_text(ring), text)

    def test_the_empty_text(self):
        ring = read_ring("")
        self.assertEqual((ring.words(), ring.sizes()), ([], (0, 0)))

    def test_what_is_written_is_read_back(self):
        places = [None, (), A, AB, SIX]
        for chosen in itertools.product(places, repeat=4):
            kept = {word: place for word, place in zip(["b", "a", "ab", "zzzz"], chosen) if place is not None}
            ring = read_ring(ring_text(ring_with(kept)))
            self.assertEqual((places_of(ring), ring.sizes()), (kept, (0, 0)))

    def test_a_ring_that_was_read_goes_on(self):
        ring = read_ring("x /a\ny /a/b\n")
        self.assertEqual(ring.keep("x", B), A)
        self.assertEqual(ring.lose("y"), AB)
        self.assertEqual(ring.shift(B, SIX), 1)
        self.assertEqual(ring.sizes(), (3, 0))
        self.assertEqual([ring.back(), ring.back(), ring.back()], ["shift", "lose", "keep"])
        self.assertRaises(NoPlace, ring.back)
        self.assertEqual((places_of(ring), ring.sizes()), ({"x": A, "y": AB}, (0, 3)))

    def test_another_ring_of_the_same_text(self):
        for text in ["", "x /a\ny /a/b\n"]:
            one, other = read_ring(text), read_ring(text)
            one.keep("z", A)
            one.shift(A, B)
            one.lose("z")
            one.back()
            self.assertEqual((ring_text(other), other.sizes()), (text, (0, 0)))
            third = read_ring(text)
            self.assertEqual((ring_text(third), third.sizes()), (text, (0, 0)))


class ReadOtherTextsTest(unittest.TestCase):
    def check(self, *texts):
        for text in texts:
            with self.subTest(text=text):
                self.assertRaises(NoText, read_ring, text)

    def test_not_rising(self):
        self.check("y /a\nx /a\n", "b /\na /\n", "aa /a\na /b\n", "a /a\nc /a\nb /a\n", "b /a\nc /a\na /a\n",
                   "b /a\nab /b\n")

    def test_a_word_twice(self):
        self.check("x /a\nx /a\n", "x /a\nx /b\n", "x /\ny /\nx /\n", "w /\nx /a\nx /b\ny /\n")

    def test_without_a_blank(self):
        self.check("x/a\n", "x\n", "/a\n", "/\n", "w /\nx/a\n", "x/a\ny /\n", "x\n/a\n")

    def test_with_two_blanks(self):
        self.check("x  /a\n", " x /a\n", "x /a \n", "x /a /b\n", "x y /a\n", "x / a\n", "x /a/ b\n", "w /\nx  /a\n",
                   "  \n")

    def test_without_the_last_line_feed(self):
        self.check("x /a", "x /", "w /\nx /a", "x", " ", "w /\nx /a\ny")

    def test_with_empty_lines(self):
        self.check("\n", "\n\n", "\nx /a\n", "x /a\n\n", "w /\n\nx /a\n", "w /\nx /a\n\n")

    def test_with_what_is_no_word(self):
        for word in ["", "abcde", "X", "xX", "0", "x0", "/", "/x", ">", ">x", ".", "..", "x.", "~", "x\n", "\nx", "-"]:
            self.check(word + " /a\n", "a /\n" + word + " /a\n", word + " /a\nzz /\n")

    def test_with_what_is_no_places_text(self):
        for text in ["", "a", "//", "/a/", "//a", "/a//b", "/abcde", "/a/b/c/d/e/f/g", "/A", "/0", "/a.", "/..", ">/a",
                     ">/", "/a>", "/*", "\n/a", "/a\n", "/\n"]:
            self.check("x " + text + "\n", "a /\nx " + text + "\n", "x " + text + "\ny /\n")

    def test_all_short_texts(self):
        lines = ["a /", "a /b", "b /", "ab /a/b", "", "a", " /", "a  /", "B /"]
        for length in range(4):
            for chosen in itertools.product(lines, repeat=length):
                text = "".join(line + "\n" for line in chosen)
                words = [line.split(" ")[0] for line in chosen]
                if set(chosen) <= set(lines[:4]) and words == sorted(set(words)):
                    self.assertEqual(read_ring(text).words(), words)
                    self.assertEqual(ring_text(read_ring(text)), text)
                    if text:
                        self.check(text[:-1])
                else:
                    self.check(text)


if __name__ == "__main__":
    unittest.main()
