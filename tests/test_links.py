import itertools
import unittest

from cardplaces.links import Presser, are_links, dead_ends, link_at, next_places, reached, shortest, words_at
from cardplaces.places import led

A, B, C, D = ("a",), ("b",), ("c",), ("d",)
AB, AC = ("a", "b"), ("a", "c")
LINK = (A, "on", "open", ("b",))
GO = (A, "back", "go", -1)


def step_link(whence, word, *steps):
    return (whence, word, "open", steps)


class AreLinksTest(unittest.TestCase):
    def check(self, thing, wanted):
        self.assertIs(are_links(thing), wanted, repr(thing))

    def check_link(self, link, wanted):
        self.check((link,), wanted)
        self.check((LINK, link), wanted)
        self.check((link, GO), wanted)

    def test_links(self):
        for thing in [(), (LINK,), (GO,), (LINK, GO), (LINK, LINK), (((), "a", "replace", ()),),
                      ((AB, "abcd", "replace", ("..", "c", ".", "dddd")), (("a",) * 6, "go", "go", 0))]:
            self.check(thing, True)

    def test_how_many(self):
        for many, wanted in [(0, True), (1, True), (11, True), (12, True), (13, False), (120, False)]:
            self.check((LINK,) * many, wanted)
            self.check((GO,) * many, wanted)

    def test_every_link_counts(self):
        for spot in range(12):
            links = [LINK] * 12
            links[spot] = (A, "on", "close", ("b",))
            self.check(tuple(links), False)

    def test_how_many_parts(self):
        for link in [(), (A,), (A, "on"), (A, "on", "open"), (A, "on", ("b",)), (A, "back", -1), (A, "open", ("b",))]:
            self.check_link(link, False)
        self.check_link((A, "on", "open", ("b",), ("b",)), False)
        self.check_link((A, "on", "open", ("b",), -1), False)
        self.check_link((A, "back", "go", -1, -1), False)
        self.check_link((A, "back", "go", -1, ()), False)

    def test_a_link_alone_is_no_tuple_of_links(self):
        self.check(LINK, False)
        self.check(GO, False)
        self.check(((), (), (), ()), False)

    def test_whence_is_a_place(self):
        for thing in [(), A, ("abcd",), ("a",) * 6]:
            self.check_link((thing, "on", "open", ()), True)
            self.check_link((thing, "on", "go", 1), True)
        for thing in ["", "a", "/", ("",), ("A",), ("abcde",), ("a",) * 7, ("..",), (".",), [], ["a"], (("a",),),
                      (1,), 0, 1, True, False, None]:
            self.check_link((thing, "on", "open", ()), False)
            self.check_link((thing, "on", "replace", ()), False)
            self.check_link((thing, "on", "go", 1), False)

    def test_the_word(self):
        for word in ["a", "z", "ab", "abc", "abcd", "open", "go"]:
            self.check_link((A, word, "open", ()), True)
            self.check_link((A, word, "go", 1), True)
        for word in ["", "abcde", "replace", "A", "aB", "a b", " a", "a1", ".", "..", "/", "a-", "\u00e4", "`", "{",
                     ("a",), ["a"], (), 0, 1, True, False, None]:
            self.check_link((A, word, "open", ()), False)
            self.check_link((A, word, "replace", ()), False)
            self.check_link((A, word, "go", 1), False)

    def test_the_kind(self):
        for kind in ["", "Open", "OPEN", "opens", "ope", "open ", "replaces", "Go", "GO", "g", "gone", "let", "stop",
                     "ask", "a", ("open",), ["go"], (), [], 0, 1, True, False, None]:
            for part in [(), ("b",), 0, 1, -1, "b", None]:
                self.check_link((A, "on", kind, part), False)

    def test_how_many_steps(self):
        for kind in ("open", "replace"):
            for many, wanted in [(0, True), (1, True), (3, True), (4, True), (5, False), (50, False)]:
                for step in ("b", "..", "."):
                    self.check_link((A, "on", kind, (step,) * many), wanted)

    def test_each_step(self):
        for kind, spot in itertools.product(("open", "replace"), range(4)):
            for step in ["a", "abcd", ".", "..", "zzz"]:
                self.check_link((A, "on", kind, ("b",) * spot + (step,) + ("b",) * (3 - spot)), True)
            for step in ["", "...", "abcde", "A", "/", "a.", ". ", ".a", "..a", ("a",), ["."], (), 0, 1, True, None]:
                self.check_link((A, "on", kind, ("b",) * spot + (step,) + ("b",) * (3 - spot)), False)

    def test_steps_are_a_tuple(self):
        for kind in ("open", "replace"):
            for part in ["", "b", "..", ".", "bbb", [], ["b"], [".."], ("b", ["b"]), 0, 1, -9, True, False, None]:
                self.check_link((A, "on", kind, part), False)

    def test_steps_may_lead_nowhere(self):
        for kind in ("open", "replace"):
            self.check_link(((), "on", kind, ("..",) * 4), True)
            self.check_link((("a",) * 6, "on", kind, ("a",) * 4), True)

    def test_the_number(self):
        for number in range(-30, 31):
            self.check_link((A, "on", "go", number), -9 <= number <= 9)
        for number in [10 ** 30, -10 ** 30, 99, -99]:
            self.check_link((A, "on", "go", number), False)

    def test_what_is_no_number(self):
        for part in [True, False, None, "", "1", "-1", "b", (), (1,), ("b",), ("..",), [], [1]]:
            self.check_link((A, "on", "go", part), False)

    def test_lists_in_the_stead_of_tuples(self):
        for thing in [[], [LINK], [LINK, GO], (list(LINK),), ((["a"], "on", "open", ()),), ((A, "on", "open", ["b"]),)]:
            self.check(thing, False)

    def test_things_of_other_kinds(self):
        for thing in [0, 1, -3, 10 ** 30, True, False, None, "", "go", "abc", "open", "abcd"]:
            self.check(thing, False)
            self.check((thing,), False)
            self.check([thing], False)
            self.check((thing,) * 4, False)
            self.check((LINK, thing), False)
            self.check(((thing,) * 4,), False)

    def test_deep_things(self):
        deep_tuple, deep_list = (LINK,), [LINK]
        for layer in range(12):
            deep_tuple, deep_list = (deep_tuple,), [deep_list]
            for thing in (deep_tuple, deep_list, (deep_tuple, deep_list)):
                self.check(thing, False)
                self.check_link((thing, "on", "open", ()), False)
                self.check_link((A, thing, "open", ()), False)
                self.check_link((A, "on", thing, ()), False)
                self.check_link((A, "on", "open", thing), False)
                self.check_link((A, "on", "open", (thing,)), False)
                self.check_link((A, "on", "go", thing), False)

    def test_what_is_handed_in_is_not_changed(self):
        thing = [LINK, ["a", (1,)]]
        are_links(thing)
        self.assertEqual(thing, [LINK, ["a", (1,)]])


class LinkAtTest(unittest.TestCase):
    LINKS = ((AB, "on", "open", ("x",)), (A, "on", "go", 1), ((), "up", "open", ("..",)),
             ((), "on", "replace", ("y",)), (A, "up", "go", -1), (B, "in", "open", ("z",)), (B, "in", "go", 2))

    def test_the_first_of_several(self):
        for place, spot in [(AB, 0), (("a", "b", "c"), 0), (A, 1), (AC, 1), ((), 3), (B, 3), (("ab",), 3)]:
            self.assertEqual(link_at(self.LINKS, place, "on"), self.LINKS[spot], place)
        for place in [(), A, AB, B]:
            self.assertEqual(link_at(self.LINKS, place, "up"), self.LINKS[2])
        for place in [B, ("b", "a")]:
            self.assertEqual(link_at(self.LINKS, place, "in"), self.LINKS[5])

    def test_none(self):
        for place in [(), A, AB, ("a", "b", "b"), ("bb",)]:
            self.assertIsNone(link_at(self.LINKS, place, "in"))
        for place in [(), A, B]:
            for word in ["x", "o", "onn", "open", "go"]:
                self.assertIsNone(link_at(self.LINKS, place, word))
            self.assertIsNone(link_at((), place, "on"))

    def test_words_at(self):
        self.assertEqual(words_at(self.LINKS, ()), ["on", "up"])
        self.assertEqual(words_at(self.LINKS, AB), ["on", "up"])
        self.assertEqual(words_at(self.LINKS, B), ["in", "on", "up"])
        self.assertEqual(words_at(self.LINKS[:2], A), ["on"])
        self.assertEqual(words_at(self.LINKS[:2], B), [])
        self.assertEqual(words_at(self.LINKS[5:], B), ["in"])
        self.assertEqual(words_at((), A), [])

    def test_words_rise(self):
        for words in itertools.permutations(["b", "a", "ab", "aa", "b"]):
            links = tuple((A, word, "go", 1) for word in words)
            self.assertEqual(words_at(links, AB), ["a", "aa", "ab", "b"])

    def test_words_of_links_that_lead_nowhere_count(self):
        self.assertEqual(words_at((((), "up", "open", ("..",)), ((), "go", "go", 9)), ()), ["go", "up"])

    def test_told_lists_are_new_ones(self):
        told = words_at(self.LINKS, B)
        told.clear()
        self.assertEqual(words_at(self.LINKS, B), ["in", "on", "up"])


class PresserTest(unittest.TestCase):
    LINKS = ((A, "b", "open", ("..", "b")), ((), "a", "open", ("a",)), ((), "c", "replace", ("..", "c")),
             ((), "back", "go", -1), ((), "on", "go", 1), ((), "stay", "go", 0), ((), "same", "open", (".",)),
             ((), "self", "replace", (".",)), ((), "none", "open", ()), ((), "up", "open", ("..",)),
             ((), "far", "replace", ("..", "..")), ((), "full", "open", ("a", "a", "a", "a")))

    def presser(self, *words):
        presser = Presser(self.LINKS, (), 4)
        for word in words:
            self.assertIs(presser.press(word), True, word)
        return presser

    def check(self, presser, entries, now):
        self.assertEqual(presser.entries(), entries)
        self.assertEqual(presser.now(), now)

    def test_at_first(self):
        for place in [(), A, ("a",) * 6]:
            self.check(Presser(self.LINKS, place, 1), [place], place)
        self.check(Presser((), A, 3), [A], A)

    def test_open_visits(self):
        self.check(self.presser("a"), [(), A], A)
        self.check(self.presser("a", "b"), [(), A, B], B)
        self.check(self.presser("a", "a"), [(), A, ("a", "a")], ("a", "a"))

    def test_replace_replaces(self):
        self.check(self.presser("a", "c"), [(), C], C)
        self.check(self.presser("a", "b", "back", "c"), [(), C, B], C)

    def test_go_goes(self):
        self.check(self.presser("a", "b", "back"), [(), A, B], A)
        self.check(self.presser("a", "b", "back", "back"), [(), A, B], ())
        self.check(self.presser("a", "b", "back", "back", "on"), [(), A, B], A)

    def test_a_go_by_several(self):
        links = (((), "a", "open", ("a",)), ((), "far", "go", -3), ((), "end", "go", 2))
        presser = Presser(links, (), 9)
        for many in range(3):
            self.assertIs(presser.press("far"), False)
            self.assertIs(presser.press("end"), False)
            self.assertIs(presser.press("a"), True)
        self.assertIs(presser.press("far"), True)
        self.check(presser, [(), A, ("a",) * 2, ("a",) * 3], ())
        self.assertIs(presser.press("end"), True)
        self.check(presser, [(), A, ("a",) * 2, ("a",) * 3], ("a",) * 2)
        self.assertIs(presser.press("end"), False)
        self.check(presser, [(), A, ("a",) * 2, ("a",) * 3], ("a",) * 2)

    def test_open_takes_away_what_is_ahead(self):
        self.check(self.presser("a", "b", "back", "a"), [(), A, ("a", "a")], ("a", "a"))

    def test_to_the_place_looked_at_itself(self):
        self.check(self.presser("a", "b", "back", "same"), [(), A, A], A)
        self.check(self.presser("a", "b", "back", "none"), [(), A, A], A)
        self.check(self.presser("a", "b", "back", "self"), [(), A, B], A)
        self.check(self.presser("a", "b", "back", "stay"), [(), A, B], A)

    def test_to_the_place_without_words(self):
        self.check(self.presser("a", "up"), [(), A, ()], ())
        links = ((A, "top", "replace", ("..",)),)
        presser = Presser(links, A, 3)
        self.assertIs(presser.press("top"), True)
        self.check(presser, [()], ())

    def test_without_a_link(self):
        for word in ["x", "ab", "open"]:
            presser = self.presser("a", "b", "back")
            self.assertIs(presser.press(word), False)
            self.check(presser, [(), A, B], A)
            self.assertIs(presser.press("on"), True)
        presser = self.presser("a", "b")
        self.assertIs(presser.press("b"), False)
        self.check(presser, [(), A, B], B)
        presser = Presser((), A, 3)
        self.assertIs(presser.press("a"), False)
        self.check(presser, [A], A)

    def test_steps_that_lead_nowhere(self):
        presser = self.presser("a", "b", "back")
        self.assertIs(presser.press("far"), False)
        self.check(presser, [(), A, B], A)
        presser = self.presser("a", "b", "back", "back")
        for word in ["up", "far", "c"]:
            self.assertIs(presser.press(word), False)
            self.check(presser, [(), A, B], ())
        self.assertIs(presser.press("on"), True)
        presser = self.presser("full", "a")
        for word, wanted in [("full", False), ("a", True), ("a", False)]:
            self.assertIs(presser.press(word), wanted)
        self.check(presser, [(), ("a",) * 4, ("a",) * 5, ("a",) * 6], ("a",) * 6)

    def test_a_go_without_an_entry(self):
        presser = self.presser("a", "b")
        self.assertIs(presser.press("on"), False)
        self.check(presser, [(), A, B], B)
        presser = self.presser("a", "b", "back", "back")
        self.assertIs(presser.press("back"), False)
        self.check(presser, [(), A, B], ())
        presser = self.presser()
        for word in ["back", "on"]:
            self.assertIs(presser.press(word), False)
            self.check(presser, [()], ())

    def test_the_first_link_alone_is_pressed(self):
        links = ((A, "x", "go", 5), ((), "x", "open", ("b",)), (B, "y", "open", ("..", "..")), (B, "y", "open", ("c",)))
        presser = Presser(links, A, 5)
        self.assertIs(presser.press("x"), False)
        self.check(presser, [A], A)
        presser = Presser(links, B, 5)
        self.assertIs(presser.press("y"), False)
        self.check(presser, [B], B)
        self.assertIs(presser.press("x"), True)
        self.check(presser, [B, ("b", "b")], ("b", "b"))

    def test_most(self):
        self.check(self.presser("a", "b", "a", "a"), [A, B, ("b", "a"), ("b", "a", "a")], ("b", "a", "a"))
        presser = Presser(self.LINKS, (), 1)
        self.assertIs(presser.press("a"), True)
        self.check(presser, [A], A)
        self.assertIs(presser.press("back"), False)

    def test_told_lists_are_new_ones_and_pressers_are_apart(self):
        one, other = self.presser(), self.presser()
        one.entries().append(B)
        self.check(one, [()], ())
        one.press("a")
        self.check(other, [()], ())


class NextPlacesTest(unittest.TestCase):
    def test_by_words(self):
        links = (((), "c", "open", ("x",)), (A, "a", "replace", ("..",)), ((), "ab", "replace", (".",)),
                 (A, "b", "open", ("..", "b")))
        self.assertEqual(next_places(links, A), [("a", ()), ("ab", A), ("b", B), ("c", ("a", "x"))])
        self.assertEqual(next_places(links, ()), [("ab", ()), ("c", ("x",))])
        self.assertEqual(next_places((), A), [])

    def test_without_those_that_go(self):
        links = (((), "a", "go", 0), ((), "b", "open", ("b",)), ((), "c", "go", 1))
        self.assertEqual(next_places(links, ()), [("b", B)])

    def test_without_those_that_lead_nowhere(self):
        links = (((), "up", "open", ("..",)), ((), "down", "replace", ("a",)), ((), "u", "replace", ("..", "..", "a")))
        self.assertEqual(next_places(links, ()), [("down", A)])
        self.assertEqual(next_places(links, A), [("down", ("a", "a")), ("up", ())])
        self.assertEqual(next_places(links, ("a",) * 6), [("u", ("a",) * 5), ("up", ("a",) * 5)])

    def test_the_first_link_of_a_word_alone_counts(self):
        links = ((A, "x", "go", 1), ((), "x", "open", ("b",)), ((), "y", "open", ("..",)), ((), "y", "open", ("c",)),
                 ((), "z", "open", ("d",)), ((), "z", "go", 1), ((), "z", "replace", ("e",)))
        self.assertEqual(next_places(links, A), [("y", ()), ("z", ("a", "d"))])
        self.assertEqual(next_places(links, ()), [("x", B), ("z", D)])

    def test_two_words_to_one_place(self):
        links = (((), "b", "open", ("a",)), ((), "a", "replace", ("b", "..", "a")))
        self.assertEqual(next_places(links, ()), [("a", A), ("b", A)])

    def test_told_lists_are_new_ones(self):
        links = (step_link((), "a", "a"),)
        told = next_places(links, ())
        told.clear()
        self.assertEqual(next_places(links, ()), [("a", A)])
        self.assertEqual([type(pair) for pair in next_places(links, ())], [tuple])


class WaysTest(unittest.TestCase):
    # From /a by x to /b, by y to /c; from /b by x to /d; from /c by x to /d; from /d by back to /a.
    LINKS = ((A, "x", "open", ("..", "b")), (A, "y", "replace", ("..", "c")), (B, "x", "open", ("..", "d")),
             (C, "x", "replace", ("..", "d")), (D, "back", "open", ("..", "a")))

    def test_a_place_to_itself(self):
        for links in [(), self.LINKS, (step_link((), "x", "."),)]:
            for place in [(), A, D, ("a",) * 6]:
                self.assertEqual(shortest(links, place, place), ())

    def test_one_word(self):
        self.assertEqual(shortest(self.LINKS, A, B), ("x",))
        self.assertEqual(shortest(self.LINKS, A, C), ("y",))
        self.assertEqual(shortest(self.LINKS, D, A), ("back",))

    def test_over_several_ways(self):
        self.assertIn(shortest(self.LINKS, A, D), [("x", "x"), ("y", "x")])
        self.assertEqual(shortest(self.LINKS, B, C), ("x", "back", "y"))
        links = ((A, "a", "open", ("..", "b")), (A, "z", "open", ("..", "d")), (B, "a", "open", ("..", "c")),
                 (C, "a", "open", ("..", "d")))
        self.assertEqual(shortest(links, A, D), ("z",))

    def test_without_any(self):
        self.assertIsNone(shortest(self.LINKS, A, ()))
        self.assertIsNone(shortest(self.LINKS, (), A))
        self.assertIsNone(shortest((), A, B))
        self.assertIsNone(shortest((((), "x", "go", 1),), A, B))

    def test_over_loops(self):
        links = (step_link((), "stay", "."), step_link(A, "x", "..", "b"), step_link(B, "x", "..", "a"),
                 step_link(B, "y", "..", "c"))
        self.assertEqual(shortest(links, A, C), ("x", "y"))
        self.assertIsNone(shortest(links, A, D))
        self.assertIsNone(shortest(links, C, A))
        self.assertEqual(reached(links, A), [A, B, C])
        self.assertEqual(dead_ends(links, A), [C])

    def test_not_over_goes_nor_over_links_hidden_by_others(self):
        links = ((A, "x", "go", 1), (A, "x", "open", ("..", "b")), (A, "y", "open", ("..", "..")),
                 (A, "y", "open", ("..", "c")))
        self.assertIsNone(shortest(links, A, B))
        self.assertIsNone(shortest(links, A, C))
        self.assertEqual(reached(links, A), [A])
        self.assertEqual(dead_ends(links, A), [A])

    def test_to_the_place_without_words(self):
        links = (step_link((), "up", ".."),)
        self.assertEqual(shortest(links, ("a",) * 3, ()), ("up",) * 3)
        self.assertEqual(reached(links, AB), [(), A, AB])
        self.assertEqual(dead_ends(links, AB), [()])

    def test_the_longest_way_down(self):
        links = (step_link((), "down", "a"),)
        self.assertEqual(shortest(links, (), ("a",) * 6), ("down",) * 6)
        self.assertIsNone(shortest(links, (), ("a",) * 7))
        self.assertEqual(reached(links, ()), [("a",) * many for many in range(7)])
        self.assertEqual(dead_ends(links, ()), [("a",) * 6])

    def test_reached(self):
        for place in [A, B, C, D]:
            self.assertEqual(reached(self.LINKS, place), [A, B, C, D])
        self.assertEqual(reached(self.LINKS, ()), [()])
        self.assertEqual(reached((), AB), [AB])
        self.assertEqual(reached(self.LINKS[:3], A), [A, B, C, D])
        self.assertEqual(reached(self.LINKS[:3], C), [C])

    def test_reached_rises(self):
        links = (step_link(D, "u", "..", "b"), step_link(D, "v", "..", "aa"), step_link(D, "w", "..", "a", "b"),
                 step_link(D, "x", "..", "a"), step_link(D, "y", ".."), step_link(D, "z", "..", "a"))
        self.assertEqual(reached(links, D), [(), A, AB, ("aa",), B, D])
        self.assertEqual(dead_ends(links, D), [(), A, AB, ("aa",), B])

    def test_dead_ends(self):
        self.assertEqual(dead_ends(self.LINKS, A), [])
        self.assertEqual(dead_ends(self.LINKS[:3], A), [C, D])
        self.assertEqual(dead_ends(self.LINKS[:3], D), [D])
        self.assertEqual(dead_ends((), ()), [()])

    def test_a_place_that_leads_to_itself_alone_is_a_dead_end(self):
        links = ((A, "x", "open", ("..", "b")), (A, "y", "open", ("..", "c")), (B, "x", "replace", (".",)),
                 (B, "y", "open", ("c", "..")), (B, "z", "go", 1), (C, "x", "open", (".",)),
                 (C, "y", "open", ("..", "d")))
        self.assertEqual(dead_ends(links, A), [B, D])

    def test_told_lists_are_new_ones(self):
        for told in (reached, dead_ends):
            wanted = list(told(self.LINKS[:3], A))
            told(self.LINKS[:3], A).clear()
            self.assertEqual(told(self.LINKS[:3], A), wanted)
            self.assertIsInstance(told(self.LINKS, A), list)


class WholeWaysTest(unittest.TestCase):
    """Many tuples of links, against a model that tries all rows of words."""

    PARTS = [((), "x", "open", ("a",)), ((), "x", "replace", ("..",)), (A, "x", "go", 1), (A, "y", "open", ("..", "b")),
             (AB, "y", "replace", ("..", "..")), (B, "x", "open", ("..", "a", "b")), ((), "z", "replace", (".",)),
             (B, "z", "go", -1), (A, "z", "open", ("b",)), ((), "y", "open", ("..", "a"))]
    STARTS = [(), A, AB, B]
    # Reached by no link of those above, or by some of them alone.
    GOALS = STARTS + [C, ("b", "a"), ("a", "a"), ("a",) * 6]

    def pressed(self, links, place, word):
        for whence, link_word, kind, part in links:
            if link_word == word and place[:len(whence)] == whence:
                return None if kind == "go" else led(place, part)
        return None

    def lengths(self, links, start):
        """How many words at least lead to each place, by lengths that are bettered as long as they can be."""
        lengths, bettered = {start: 0}, True
        while bettered:
            bettered = False
            for place, word in itertools.product(list(lengths), "xyz"):
                goal = self.pressed(links, place, word)
                if goal is not None and lengths.get(goal, 10 ** 6) > lengths[place] + 1:
                    lengths[goal] = lengths[place] + 1
                    bettered = True
        return lengths

    def test_all_tuples_of_some_links(self):
        for links in itertools.permutations(self.PARTS, 3):
            for start in self.STARTS:
                self.check_from(links, start)

    def test_many_links(self):
        for turn in range(len(self.PARTS)):
            links = tuple(self.PARTS[turn:] + self.PARTS[:turn])
            for many in range(4, 11):
                for start in self.STARTS:
                    self.check_from(links[:many], start)

    def check_from(self, links, start):
        lengths = self.lengths(links, start)
        self.assertEqual(reached(links, start), sorted(lengths))
        ends = [place for place in sorted(lengths)
                if all(self.pressed(links, place, word) in (None, place) for word in "xyz")]
        self.assertEqual(dead_ends(links, start), ends)
        for goal in self.GOALS:
            way = shortest(links, start, goal)
            if goal not in lengths:
                self.assertIsNone(way)
                continue
            self.assertIsInstance(way, tuple)
            self.assertEqual(len(way), lengths[goal])
            place = start
            for word in way:
                place = dict(next_places(links, place))[word]
            self.assertEqual(place, goal)


if __name__ == "__main__":
    unittest.main()
