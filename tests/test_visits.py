import itertools
import unittest

from cardplaces.visits import branches, counts, oftenest, recent, stays, trail, under

A, B, C, D = ("a",), ("b",), ("c",), ("d",)
AB, AC = ("a", "b"), ("a", "c")
SHORT_LISTS = [list(places) for many in range(7) for places in itertools.product([(), A, AB], repeat=many)]


class TrailTest(unittest.TestCase):
    def test_trails(self):
        for places, wanted in [([], []), ([A], [A]), ([A, B, C], [A, B, C]), ([A, A], [A]), ([A, A, A], [A]),
                               ([A, B, A], [A]), ([A, B, B, C], [A, B, C]), ([A, B, C, B], [A, B]),
                               ([A, B, C, B, D], [A, B, D]), ([A, B, C, B, C, A, C], [A, C]), ([(), A, ()], [()]),
                               ([A, AB, A, AC, AB], [A, AC, AB]), ([A, B, C, D, D, B, B, D], [A, B, D])]:
            self.assertEqual(trail(places), wanted)

    def test_all_short_lists(self):
        for places in SHORT_LISTS:
            told = trail(places)
            self.assertIsInstance(told, list)
            self.assertEqual(len(told), len(set(told)))
            if places:
                ahead = trail(places[:-1])
                last = places[-1]
                self.assertEqual(told, ahead[:ahead.index(last) + 1] if last in ahead else ahead + [last])


class CountsTest(unittest.TestCase):
    def test_counts(self):
        for places, wanted in [([], {}), ([A], {A: 1}), ([A, A], {A: 2}), ([A, B, A, (), A], {A: 3, B: 1, (): 1}),
                               ([A, AB, ("ab",)], {A: 1, AB: 1, ("ab",): 1})]:
            self.assertEqual(counts(places), wanted)

    def test_all_short_lists(self):
        for places in SHORT_LISTS:
            self.assertEqual(counts(places), {place: places.count(place) for place in places})


class RecentTest(unittest.TestCase):
    def test_recent(self):
        for places, most, wanted in [([], 0, []), ([], 3, []), ([A], 0, []), ([A], 1, [A]), ([A, B, C], 2, [C, B]),
                                     ([A, B, C], 3, [C, B, A]), ([A, B, C], 9, [C, B, A]), ([A, B, A], 2, [A, B]),
                                     ([A, A, B, B], 2, [B, A]), ([A, B, A, A], 1, [A]), ([(), A, ()], 5, [(), A])]:
            self.assertEqual(recent(places, most), wanted)

    def test_all_short_lists(self):
        for places in SHORT_LISTS:
            wanted = []
            for place in places[::-1]:
                if place not in wanted:
                    wanted.append(place)
            for most in range(5):
                self.assertEqual(recent(places, most), wanted[:most])

    def test_most_below_none(self):
        for most in (-1, -2, -9):
            self.assertEqual(recent([A, B, A, C], most), [])
            self.assertEqual(oftenest([A, B, A, C], most), [])


class OftenestTest(unittest.TestCase):
    def test_oftenest(self):
        for places, most, wanted in [([], 0, []), ([], 3, []), ([A], 0, []), ([A], 1, [A]), ([A, B, A], 1, [A]),
                                     ([A, B, A], 2, [A, B]), ([A, B, A], 9, [A, B]), ([A, A, B], 9, [A, B]),
                                     ([B, A, A, C], 9, [A, C, B]), ([B, A, A, C], 2, [A, C])]:
            self.assertEqual(oftenest(places, most), wanted)

    def test_of_as_often_ones(self):
        for places in itertools.permutations([A, B, C, D]):
            self.assertEqual(oftenest(list(places), 9), list(reversed(places)))
        self.assertEqual(oftenest([A, B, B, A], 9), [A, B])
        self.assertEqual(oftenest([B, A, A, B], 9), [B, A])
        self.assertEqual(oftenest([A, B, A, B], 9), [B, A])
        self.assertEqual(oftenest([A, B, A, B], 1), [B])
        self.assertEqual(oftenest([A, A, B, B, C, A], 9), [A, B, C])

    def test_all_short_lists(self):
        for places in SHORT_LISTS:
            last = {place: spot for spot, place in enumerate(places)}
            wanted = sorted(last, key=lambda place: (places.count(place), last[place]), reverse=True)
            for most in range(5):
                self.assertEqual(oftenest(places, most), wanted[:most])


class UnderTest(unittest.TestCase):
    PLACES = [A, AB, (), AB, ("ab",), ("a", "b", "c"), B, ("b", "a")]

    def test_under(self):
        for other, many in [((), 8), (A, 4), (AB, 3), (("a", "b", "c"), 1), (("a", "b", "c", "d"), 0), (AC, 0),
                            (("ab",), 1), (B, 2), (C, 0)]:
            self.assertEqual(under(self.PLACES, other), many)
        self.assertEqual(under([], ()), 0)
        self.assertEqual(under([()], ()), 1)
        self.assertEqual(under([()], A), 0)

    def test_branches(self):
        for other, wanted in [((), [("a", 4), ("ab", 1), ("b", 2)]), (A, [("b", 3)]), (AB, [("c", 1)]), (AC, []),
                              (("a", "b", "c"), []), (B, [("a", 1)]), (("ab",), []), (C, [])]:
            self.assertEqual(branches(self.PLACES, other), wanted)
        self.assertEqual(branches([], ()), [])
        self.assertEqual(branches([(), ()], ()), [])
        self.assertEqual(branches([A, A], A), [])
        self.assertEqual(branches([A, AB, AC, AB], A), [("b", 2), ("c", 1)])

    def test_branches_rise(self):
        for words in itertools.permutations(["b", "a", "ab", "aa", "b"]):
            places = [("x", word, "y") for word in words] + [("x",), (), ("y", "z")]
            self.assertEqual(branches(places, ("x",)), [("a", 1), ("aa", 1), ("ab", 1), ("b", 2)])

    def test_all_short_lists(self):
        for places, other in itertools.product(SHORT_LISTS, [(), A, AB, B]):
            hits = [place for place in places if list(place)[:len(other)] == list(other)]
            self.assertEqual(under(places, other), len(hits))
            words = [place[len(other)] for place in hits if place != other]
            self.assertEqual(branches(places, other), [(word, words.count(word)) for word in sorted(set(words))])


class StaysTest(unittest.TestCase):
    def test_stays(self):
        for places, moments, end, wanted in [([], [], 0, {}), ([], [], 9, {}), ([A], [2], 9, {A: 7}),
                                             ([A], [2], 2, {A: 0}), ([A, B], [0, 3], 10, {A: 3, B: 7}),
                                             ([A, B, A], [1, 3, 10], 14, {A: 6, B: 7}),
                                             ([A, A], [1, 4], 6, {A: 5}), ([A, B], [1, 4], 4, {A: 3, B: 0}),
                                             ([(), A], [-5, -2], 3, {(): 3, A: 5}),
                                             ([A, B, A, B], [0, 1, 3, 7], 15, {A: 5, B: 10})]:
            self.assertEqual(stays(places, moments, end), wanted)

    def test_equal_moments(self):
        self.assertEqual(stays([A, B, C], [1, 1, 4], 4), {A: 0, B: 3, C: 0})
        self.assertEqual(stays([A, A], [4, 4], 4), {A: 0})

    def test_all_short_lists(self):
        for places in SHORT_LISTS:
            moments = [spot * spot for spot in range(len(places))]
            end = len(places) ** 2 + 1
            told = stays(places, moments, end)
            self.assertEqual(sorted(told), sorted(set(places)))
            # The place of each moment in between, one by one: those of them that are begun last.
            shown = [places[len([begin for begin in moments if begin <= moment]) - 1]
                     for moment in range(end) if places]
            for place in told:
                self.assertEqual(told[place], shown.count(place))


class WholeVisitsTest(unittest.TestCase):
    CALLS = [(trail, ()), (counts, ()), (recent, (2,)), (oftenest, (2,)), (recent, (9,)), (oftenest, (9,)),
             (under, (A,)), (branches, (A,)), (branches, ((),)), (stays, ([0, 2, 5, 6, 9], 12))]

    def test_what_is_handed_in_is_not_changed(self):
        for call, parts in self.CALLS:
            places, handed = [A, AB, A, AC, AB], [list(part) if isinstance(part, list) else part for part in parts]
            call(places, *handed)
            self.assertEqual(places, [A, AB, A, AC, AB])
            self.assertEqual(handed, list(parts))

    def test_told_lists_and_dicts_are_new_ones(self):
        for call, parts in self.CALLS:
            if call != under:
                places = [A, AB, A, AC, AB]
                told = call(places, *parts)
                wanted = dict(told) if isinstance(told, dict) else list(told)
                self.assertIs(type(told), type(wanted))
                told.clear()
                self.assertEqual(call(places, *parts), wanted)
                self.assertEqual(places, [A, AB, A, AC, AB])

    def test_a_list_that_is_told_as_it_was_is_another_one(self):
        places = [A, B]
        for told in (trail(places), recent(places, 9), oftenest(places, 9)):
            told.append(C)
            self.assertEqual(places, [A, B])


if __name__ == "__main__":
    unittest.main()
