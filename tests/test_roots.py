import itertools
import unittest

from cardplaces.places import is_under
from cardplaces.roots import above, all_above, common, tree_text

A, B, AB, AC, ABC = ("a",), ("b",), ("a", "b"), ("a", "c"), ("a", "b", "c")
LONG = tuple("abcdef")
SMALL_PLACES = [words for length in range(4) for words in itertools.product("ab", repeat=length)]
SHORT_LISTS = [list(places) for length in range(4)
               for places in itertools.product([(), A, B, AB, ABC, ("b", "a"), ("ab",)], repeat=length)]


class AboveTest(unittest.TestCase):
    def test_the_place_without_words(self):
        self.assertEqual(above(()), [()])

    def test_the_shortest_first(self):
        self.assertEqual(above(A), [(), A])
        self.assertEqual(above(("zz", "aa")), [(), ("zz",), ("zz", "aa")])
        self.assertEqual(above(("a", "a")), [(), A, ("a", "a")])

    def test_six_words(self):
        self.assertEqual(above(LONG), [(), A, AB, ABC, tuple("abcd"), tuple("abcde"), LONG])

    def test_all_that_it_is_under(self):
        for place in SMALL_PLACES:
            self.assertEqual(above(place), [other for other in SMALL_PLACES if is_under(place, other)])

    def test_told_lists_are_new_ones(self):
        above(AB).append(B)
        above(AB).clear()
        self.assertEqual(above(AB), [(), A, AB])


class CommonTest(unittest.TestCase):
    def test_of_none(self):
        self.assertIsNone(common([]))

    def test_of_one(self):
        for place in [(), A, AB, LONG]:
            self.assertEqual(common([place]), place)

    def test_of_equal_ones(self):
        for place in [(), A, AB, LONG]:
            self.assertEqual(common([place, place]), place)
            self.assertEqual(common([place] * 4), place)

    def test_of_which_one_is_above_all_others(self):
        for places in itertools.permutations([A, AB, ABC, AC]):
            self.assertEqual(common(list(places)), A)
        self.assertEqual(common([LONG, tuple("abcde")]), tuple("abcde"))
        self.assertEqual(common([AB, ()]), ())
        self.assertEqual(common([(), AB]), ())

    def test_of_which_none_is_above_all_others(self):
        for places in itertools.permutations([ABC, ("a", "b", "d"), ("a", "b", "c", "d")]):
            self.assertEqual(common(list(places)), AB)
        self.assertEqual(common([AB, AC]), A)

    def test_of_such_that_share_no_word(self):
        for places in [[A, B], [AB, ("b", "a")], [("a", "c"), ("b", "c")], [A, ("ab",)], [("ab",), ("ac",)],
                       [AB, AC, B]]:
            self.assertEqual(common(places), ())

    def test_words_that_are_alike_again_later(self):
        self.assertEqual(common([("a", "b", "c"), ("a", "d", "c")]), A)

    def test_all_are_under_it_and_under_none_longer(self):
        for places in SHORT_LISTS:
            if places:
                shared = [other for other in all_above(places) if all(is_under(place, other) for place in places)]
                self.assertEqual(common(places), max(shared, key=len))


class AllAboveTest(unittest.TestCase):
    def test_of_none(self):
        self.assertEqual(all_above([]), [])

    def test_of_one(self):
        self.assertEqual(all_above([()]), [()])
        self.assertEqual(all_above([AB]), [(), A, AB])

    def test_rising_with_none_twice(self):
        for places in itertools.permutations([B, AB, AC, ("a", "bb"), ("b", "a"), B]):
            self.assertEqual(all_above(list(places)), [(), A, AB, ("a", "bb"), AC, B, ("b", "a")])

    def test_all_short_lists(self):
        for places in SHORT_LISTS:
            found = set()
            for place in places:
                found.update(place[:length] for length in range(len(place) + 1))
            self.assertEqual(all_above(places), sorted(found))


class TreeTextTest(unittest.TestCase):
    def test_of_none(self):
        self.assertEqual(tree_text([]), "")

    def test_the_place_without_words_alone(self):
        self.assertEqual(tree_text([()]), "/ *\n")

    def test_with_and_without_it_among_the_places(self):
        self.assertEqual(tree_text([A]), "/\n  a *\n")
        self.assertEqual(tree_text([A, ()]), "/ *\n  a *\n")
        self.assertEqual(tree_text([(), A]), "/ *\n  a *\n")

    def test_a_place_given_twice(self):
        self.assertEqual(tree_text([AB, AB]), "/\n  a\n    b *\n")
        self.assertEqual(tree_text([(), ()]), "/ *\n")

    def test_one_above_another(self):
        for places in itertools.permutations([A, ABC]):
            self.assertEqual(tree_text(list(places)), "/\n  a *\n    b\n      c *\n")

    def test_branches_rise(self):
        text = "/\n  hill *\n  sea\n    bay *\n    isle\n      cave *\n"
        for places in itertools.permutations([("sea", "isle", "cave"), ("hill",), ("sea", "bay")]):
            self.assertEqual(tree_text(list(places)), text)

    def test_alike_words_in_several_branches(self):
        self.assertEqual(tree_text([("b", "a"), ("a", "a")]), "/\n  a\n    a *\n  b\n    a *\n")

    def test_six_words(self):
        self.assertEqual(tree_text([LONG]),
                         "/\n  a\n    b\n      c\n        d\n          e\n            f *\n")

    def test_all_short_lists(self):
        for places in SHORT_LISTS:
            lines = tree_text(places).split("\n")
            self.assertEqual(lines.pop(), "")
            self.assertEqual(len(lines), len(all_above(places)))
            path = []
            for line, place in zip(lines, all_above(places)):
                name = line.strip(" *")
                depth = (len(line) - len(line.lstrip(" "))) // 2
                path = path[:max(depth - 1, 0)] + ([] if name == "/" else [name])
                self.assertEqual(tuple(path), place)
                self.assertEqual(line.endswith(" *"), place in places)


class WholeRootsTest(unittest.TestCase):
    def test_what_is_handed_in_is_not_changed(self):
        for call in (common, all_above, tree_text):
            places = [B, AB, A, AB]
            call(places)
            self.assertEqual(places, [B, AB, A, AB])

    def test_told_lists_are_new_ones(self):
        places = [(), A]
        told = all_above(places)
        told.append(B)
        self.assertEqual(places, [(), A])
        self.assertEqual(all_above(places), [(), A])


if __name__ == "__main__":
    unittest.main()
