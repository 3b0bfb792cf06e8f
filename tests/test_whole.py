"""What is promised over the whole program: its interface, what leads back and forth, what is told, what is refused."""

import importlib
import inspect
import itertools
import pathlib
import unittest

from cardplaces.askers import Asker
from cardplaces.books import Book
from cardplaces.errors import NoPane, NoPlace, NotAsked, NoText, Round, Taken
from cardplaces.guards import GuardedBook, are_guards, verdict
from cardplaces.links import Presser, are_links, dead_ends, link_at, next_places, reached, shortest, words_at
from cardplaces.panes import Panes
from cardplaces.places import is_place, is_under, led, place_text, steps_to
from cardplaces.rings import Ring
from cardplaces.ringtexts import read_ring, ring_text
from cardplaces.roots import above, all_above, common, tree_text
from cardplaces.texts import read, read_place, written
from cardplaces.visits import branches, counts, oftenest, recent, stays, trail, under

A, B, C, D, AB, AC = ("a",), ("b",), ("c",), ("d",), ("a", "b"), ("a", "c")
SIX = tuple("abcdef")
GUARDS = (((), A, "let"), ((), B, "stop"), ((), C, "ask"), ((), D, ("e",)), ((), ("e",), D))
LINKS = (((), "down", "open", ("a",)), ((), "up", "replace", ("..",)), (A, "side", "open", ("..", "b")),
         ((), "back", "go", -1), (B, "none", "open", ("..", "..")))

# Each name and how many things it takes; of a class, that of its making, and its methods.
FUNCTIONS = {
    "places": {"is_place": 1, "is_under": 2, "led": 2, "steps_to": 2, "place_text": 1},
    "guards": {"are_guards": 1, "says": 3, "verdict": 3},
    "links": {"are_links": 1, "link_at": 3, "words_at": 2, "next_places": 2, "shortest": 3, "reached": 2,
              "dead_ends": 2},
    "visits": {"trail": 1, "counts": 1, "recent": 2, "oftenest": 2, "under": 2, "branches": 2, "stays": 3},
    "texts": {"read_place": 1, "written": 2, "read": 1},
    "roots": {"above": 1, "common": 1, "all_above": 1, "tree_text": 1},
    "ringtexts": {"ring_text": 1, "read_ring": 1},
}
CLASSES = {
    "books": ("Book", 2, {"now": 0, "entries": 0, "number": 0, "visit": 1, "replace": 1, "can_go": 1, "go": 1,
                          "mark": 1, "marked": 0, "nearest": 1, "drop": 1, "tidy": 0}),
    "guards": ("GuardedBook", 3, {"now": 0, "entries": 0, "number": 0, "waits": 0, "visit": 1, "go": 1, "answer": 1}),
    "askers": ("Asker", 2, {"now": 0, "entries": 0, "number": 0, "waiting": 0, "ask": 1, "ask_go": 1, "came": 1,
                            "failed": 1, "stop": 0}),
    "panes": ("Panes", 0, {"add": 2, "place": 1, "names": 0, "visit": 2, "back": 0, "forth": 0, "steps": 0, "done": 0,
                           "back_in": 1, "close": 1, "seen": 1}),
    "links": ("Presser", 3, {"now": 0, "entries": 0, "press": 1}),
    "rings": ("Ring", 0, {"keep": 2, "find": 1, "lose": 1, "words": 0, "words_under": 1, "shift": 2, "back": 0,
                          "forth": 0, "sizes": 0, "twin": 0}),
}


def book():
    made = Book((), 4)
    for number, place in enumerate([A, B, AB]):
        made.visit(place)
        made.mark(number + 5)
    made.go(-1)
    return made


def guarded():
    made = GuardedBook((), 4, GUARDS)
    made.visit(A)
    made.visit(AB)
    made.go(-1)
    made.visit(C)
    return made


def asker():
    made = Asker((), 4)
    for place in [A, B, AB]:
        made.came(made.ask(place))
    made.ask_go(-1)
    return made


def panes():
    made = Panes()
    made.add("x", ())
    made.add("y", C)
    made.add("z", D)
    for name, place in [("x", A), ("y", B), ("x", AB)]:
        made.visit(name, place)
    made.back()
    return made


def presser():
    made = Presser(LINKS, (), 4)
    made.press("down")
    made.press("side")
    return made


def ring():
    made = Ring()
    made.keep("x", A)
    made.keep("y", SIX)
    made.keep("z", AB)
    made.lose("x")
    made.shift(AB, B)
    made.back()
    return made


def whole_book(made):
    rows = [(made.entries(), made.number(), made.now())]
    start = made.number()
    for spot in range(len(made.entries())):
        made.go(spot - made.number())
        rows.append((made.now(), made.marked()))
    made.go(start - made.number())
    return rows


def whole_guarded(made):
    return [made.entries(), made.number(), made.now(), made.waits()]


def whole_asker(made):
    return [made.entries(), made.number(), made.now(), made.waiting()]


def whole_panes(made):
    names = made.names()
    return [names, made.steps(), made.done(), [(made.place(name), made.seen(name)) for name in names]]


def whole_presser(made):
    return [made.entries(), made.now()]


def whole_ring(made):
    """Also what it can take back and do again, tried with twins of it."""
    rows = []
    for deed in ("back", "forth"):
        twin = made.twin()
        rows.append((ring_text(twin), twin.sizes()))
        while twin.sizes()[deed == "forth"]:
            rows.append((getattr(twin, deed)(), ring_text(twin), twin.sizes()))
    return rows + [made.words(), made.sizes()]


class InterfaceTest(unittest.TestCase):
    def check_takes(self, call, many):
        parameters = inspect.signature(call).parameters.values()
        self.assertEqual([one.kind for one in parameters], [inspect.Parameter.POSITIONAL_OR_KEYWORD] * many, call)

    def test_functions(self):
        for module, names in FUNCTIONS.items():
            held = importlib.import_module("cardplaces." + module)
            for name, many in names.items():
                self.check_takes(getattr(held, name), many)

    def test_classes(self):
        for module, (name, many, methods) in CLASSES.items():
            held = getattr(importlib.import_module("cardplaces." + module), name)
            self.assertTrue(inspect.isclass(held), name)
            self.check_takes(held, many)
            for method, parts in methods.items():
                self.check_takes(getattr(held, method), parts + 1)


class BackAndForthTest(unittest.TestCase):
    """0.2: (a) to (h), each over rows of what is promised of several modules together."""

    def test_a_books(self):
        made = book()
        whole = whole_book(made)
        for ways in itertools.product([-2, -1, 0, 1], repeat=3):
            trace = []
            for way in ways:
                if made.can_go(way):
                    trace.append((way, made.now(), made.marked()))
                    made.go(way)
            for way, place, number in reversed(trace):
                self.assertEqual(made.go(-way), place)
                self.assertEqual(made.marked(), number)
            self.assertEqual(whole_book(made), whole)
        made.visit(C)
        self.assertEqual(whole_book(made)[1:], whole[1:4] + [(C, 0)])

    def test_b_guards(self):
        let, asked, stopped = [GuardedBook(A, 3, (((), (), word),)) for word in ("let", "ask", "stop")]
        plain, never = Book(A, 3), GuardedBook(A, 3, (((), (), "ask"),))
        for deed, part in [("visit", B), ("visit", C), ("go", -1), ("visit", D), ("go", -2), ("go", 1), ("visit", A)]:
            getattr(plain, deed)(part)
            self.assertEqual([getattr(let, deed)(part), getattr(asked, deed)(part)], ["let", "ask"])
            self.assertEqual(asked.answer(True), plain.now())
            for one in (let, asked):
                self.assertEqual((one.entries(), one.number()), (plain.entries(), plain.number()))
            if deed == "visit":
                never.visit(part)
                stopped.visit(part)
            for one in (never, stopped):
                self.assertEqual((one.entries(), one.number()), ([A], 0))
        self.assertEqual(never.answer(True), A)
        self.assertEqual(never.entries(), [A, A])

    def test_c_what_is_asked_for(self):
        for order in itertools.permutations(range(4)):
            made = Asker((), 9)
            tickets = [made.ask(place) for place in (A, B, C, D)]
            for ticket in order:
                self.assertIs(made.came(tickets[ticket]), ticket == 3)
            self.assertEqual(made.entries(), [(), D])

    def test_d_panes(self):
        made = panes()
        made.forth()
        end = whole_panes(made)
        while made.done():
            made.back()
        self.assertEqual([made.place(name) for name in "xyz"], [(), C, D])
        while made.done() < len(made.steps()):
            made.forth()
        self.assertEqual(whole_panes(made), end)
        rest = [step for step in made.steps() if step[0] != "y"]
        made.close("y")
        self.assertEqual(made.steps(), rest)

    def test_e_ways(self):
        places = reached(LINKS, ())
        self.assertEqual(len(places), len(set(places)))
        rings = {(): 0}
        for length in range(1, 15):
            for place in [place for place in rings if rings[place] == length - 1]:
                for word, goal in next_places(LINKS, place):
                    rings.setdefault(goal, length)
        self.assertEqual(places, sorted(rings))
        for goal in places:
            way, place = shortest(LINKS, (), goal), ()
            for word in way:
                place = dict(next_places(LINKS, place))[word]
            self.assertEqual((place, len(way)), (goal, rings[goal]))
        for goal in [C, ("a", "z"), SIX]:
            self.assertIsNone(shortest(LINKS, (), goal))

    def test_f_texts(self):
        places = [(), A, AB, B, SIX, ("abcd", "z")]
        for place in places:
            self.assertEqual(read_place(place_text(place)), place)
        for number in range(len(places)):
            self.assertEqual(read(written(places, number)), (places, number))
        kept = ring()
        again = read_ring(ring_text(kept))
        self.assertEqual([(word, again.find(word)) for word in again.words()],
                         [(word, kept.find(word)) for word in kept.words()])

    def test_f_one_sign_more_or_less_or_another(self):
        """Whatever is read of a text that is not quite what was written, is written as this text, or it is refused."""
        texts = [("/ab/c", read_place, place_text), ("/a\n>/b/c\n/\n", read, lambda told: written(*told)),
                 ("a /b\nab /\nb /c/d\n", read_ring, ring_text)]
        for text, reads, writes in texts:
            others = [text[:spot] + text[spot + 1:] for spot in range(len(text))]
            for spot, sign in itertools.product(range(len(text) + 1), "az/ >\n.A0"):
                others.append(text[:spot] + sign + text[spot:])
                others.append(text[:spot] + sign + text[spot + 1:])
            refused = 0
            for other in others:
                try:
                    self.assertEqual(writes(reads(other)), other)
                except NoText:
                    refused += 1
            self.assertGreater(refused, len(others) // 2)
            self.assertLess(refused, len(others))

    def test_g_the_common_place(self):
        pool = [(), A, AB, ("a", "b", "c"), AC, B, ("ab",)]
        for places in itertools.product(pool, repeat=3):
            shared = common(list(places))
            self.assertTrue(all(is_under(place, shared) for place in places))
            for longer in all_above(list(places)):
                if len(longer) > len(shared):
                    self.assertFalse(all(is_under(place, longer) for place in places))

    def test_h_rings(self):
        made = ring()
        made.forth()
        texts = [ring_text(made)]
        names = []
        while made.sizes()[0]:
            names.append(made.back())
            texts.append(ring_text(made))
        self.assertEqual(names, ["shift", "lose", "keep", "keep", "keep"])
        self.assertEqual(texts[-1], "")
        for name, text in zip(reversed(names), reversed(texts[:-1])):
            self.assertEqual((made.forth(), ring_text(made)), (name, text))


class ToldAnewTest(unittest.TestCase):
    """0.3: told lists and dicts are new ones each time, whatever becomes of them."""

    def spoil(self, told):
        if isinstance(told, dict):
            told[SIX] = 99
            told.pop(next(iter(told)))
        else:
            told.append(SIX)
            told[0] = SIX
            told.reverse()

    def check(self, call, *parts):
        wanted = call(*parts)
        self.assertTrue(wanted)
        kept = wanted.copy()
        self.spoil(wanted)
        again = call(*parts)
        self.assertIs(type(again), type(kept))
        self.assertEqual(again, kept)
        # An older one is not changed by what is told later.
        self.spoil(call(*parts))
        self.assertEqual(again, kept)

    def test_functions(self):
        places = [A, AB, (), A, AC]
        for call, parts in [(words_at, (LINKS, A)), (next_places, (LINKS, A)), (reached, (LINKS, ())),
                            (dead_ends, (LINKS[2:], A)), (trail, (places,)), (counts, (places,)), (recent, (places, 9)),
                            (oftenest, (places, 9)), (branches, (places, A)), (stays, (places, [0, 2, 3, 6, 7], 9)),
                            (above, (AB,)), (all_above, (places,))]:
            self.check(call, *parts)
        self.check(lambda: read("/a\n>/b\n")[0])
        self.assertEqual(places, [A, AB, (), A, AC])

    def test_objects(self):
        for make, whole, tells in [(book, whole_book, [("entries",)]), (guarded, whole_guarded, [("entries",)]),
                                   (asker, whole_asker, [("entries",)]), (presser, whole_presser, [("entries",)]),
                                   (panes, whole_panes, [("names",), ("steps",), ("seen", "x"), ("seen", "z")]),
                                   (ring, whole_ring, [("words",), ("words_under", A), ("words_under", ())])]:
            made = make()
            ahead = whole(made)
            for tell in tells:
                self.check(getattr(made, tell[0]), *tell[1:])
            self.assertEqual(whole(made), ahead)


class HandedInTest(unittest.TestCase):
    """0.3: what is handed in is not changed, and nothing is kept but by the objects."""

    def test_lists(self):
        for call, parts in [(trail, ()), (counts, ()), (recent, (2,)), (oftenest, (2,)), (under, (A,)),
                            (branches, ((),)), (stays, ([0, 2, 5, 6], 12)), (written, (1,)), (common, ()),
                            (all_above, ()), (tree_text, ())]:
            places, handed = [AB, A, B, A], [list(part) if isinstance(part, list) else part for part in parts]
            first = call(places, *handed)
            self.assertEqual((places, handed), ([AB, A, B, A], list(parts)))
            self.assertEqual(call(places, *handed), first)

    def test_things(self):
        for call in (is_place, are_guards, are_links):
            thing = ["a", ["b", ("c", [0, True])], None]
            call(thing)
            self.assertEqual(thing, ["a", ["b", ("c", [0, True])], None])

    def test_a_list_changed_later_changes_nothing_that_was_told(self):
        places = [A, AB]
        told = [trail(places), recent(places, 9), all_above(places), common(places), written(places, 0)]
        wanted = [[A, AB], [AB, A], [(), A, AB], A, ">/a\n/a/b\n"]
        places[0] = B
        places.append(C)
        self.assertEqual(told, wanted)

    def test_a_ring_that_is_written(self):
        made = ring()
        ahead = whole_ring(made)
        ring_text(made)
        made.twin().keep("x", C)
        self.assertEqual(whole_ring(made), ahead)

    def values_of_all_files(self):
        package = pathlib.Path(importlib.import_module("cardplaces").__file__).parent
        found = {}
        for path in sorted(package.glob("*.py")):
            held = vars(importlib.import_module("cardplaces" if path.stem == "__init__" else "cardplaces." + path.stem))
            for name in held:
                if not name.startswith("__") and isinstance(held[name], (int, str, list, tuple, dict)):
                    found[path.stem, name] = repr(held[name])
        return found

    def test_nothing_is_kept_by_the_files(self):
        ahead = self.values_of_all_files()
        self.assertTrue(ahead)
        for make in (book, guarded, asker, panes, presser, ring):
            make()
        reached(LINKS, ())
        tree_text([A, AB])
        read_ring("a /b\n")
        self.assertEqual(self.values_of_all_files(), ahead)

    def test_objects_are_apart(self):
        for make, whole in [(book, whole_book), (guarded, whole_guarded), (asker, whole_asker), (panes, whole_panes),
                            (presser, whole_presser), (ring, whole_ring)]:
            one = make()
            ahead = whole(one)
            other = make()
            if make == panes:
                other.visit("x", SIX)
                other.close("y")
            elif make == asker:
                other.came(other.ask(SIX))
            elif make == presser:
                other.press("down")
            elif make == ring:
                other.keep("z", SIX)
            else:
                other.visit(("a", "z"))
            self.assertEqual(whole(one), ahead)
            self.assertNotEqual(whole(other), ahead)


class RefusedTest(unittest.TestCase):
    """0.3: behind each refusal the whole is as ahead of it."""

    REFUSALS = [
        (book, whole_book, NoPlace, [("go", 2), ("go", -3), ("go", 99), ("go", -99)]),
        (guarded, whole_guarded, NoPlace, [("go", 2), ("go", -2)]),
        (guarded, whole_guarded, Round, [("visit", D), ("visit", ("e",))]),
        (asker, whole_asker, NoPlace, [("ask_go", 2), ("ask_go", -3), ("ask_go", 9)]),
        (panes, whole_panes, Taken, [("add", "x", B), ("add", "y", A)]),
        (panes, whole_panes, NoPane, [("place", "w"), ("visit", "w", A), ("back_in", "w"), ("close", "w"),
                                     ("seen", "w")]),
        (panes, whole_panes, NoPlace, [("back_in", "z")]),
        (ring, whole_ring, NoPlace, [("find", "x"), ("lose", "x"), ("lose", "w"), ("shift", A, AB), ("shift", (), A)]),
    ]

    def test_refused(self):
        for make, whole, refusal, deeds in self.REFUSALS:
            made = make()
            ahead = whole(made)
            for deed in deeds:
                self.assertRaises(refusal, getattr(made, deed[0]), *deed[1:])
                self.assertEqual(whole(made), ahead, deed)

    def test_not_asked(self):
        made = guarded()
        made.answer(False)
        ahead = whole_guarded(made)
        for is_yes in (True, False):
            self.assertRaises(NotAsked, made.answer, is_yes)
            self.assertEqual(whole_guarded(made), ahead)

    def test_back_and_forth_at_their_ends(self):
        for make, whole in [(panes, whole_panes), (ring, whole_ring)]:
            for deed in ("back", "forth"):
                made = make()
                turns = 0
                with self.assertRaises(NoPlace):
                    while True:
                        ahead = whole(made)
                        getattr(made, deed)()
                        turns += 1
                self.assertGreater(turns, 0)
                self.assertEqual(whole(made), ahead)

    def test_what_was_waited_for_is_so_still(self):
        made = asker()
        self.assertRaises(NoPlace, made.ask_go, 9)
        self.assertIs(made.came(3), True)
        self.assertEqual((made.number(), made.entries()), (2, [(), A, B, AB]))
        made = guarded()
        self.assertRaises(Round, made.visit, D)
        self.assertRaises(NoPlace, made.go, 9)
        self.assertEqual(made.answer(True), C)

    def test_what_does_nothing(self):
        made = presser()
        ahead = whole_presser(made)
        for word in ("none", "side", "zzzz"):
            self.assertIs(made.press(word), False)
            self.assertEqual(whole_presser(made), ahead)
        made = asker()
        ahead = whole_asker(made)
        for ticket in (0, 1, 2, 4, -1):
            self.assertIs(made.came(ticket), False)
            self.assertIs(made.failed(ticket), False)
            self.assertEqual(whole_asker(made), ahead)

    def test_functions_that_refuse(self):
        for turn in range(2):
            self.assertRaises(Round, verdict, GUARDS, (), D)
            self.assertRaises(NoText, read_place, "/a/")
            self.assertRaises(NoText, read, "/a\n")
            self.assertRaises(NoText, read_ring, "a /b\na /b\n")
            self.assertEqual(read_place("/a"), A)


class RisingTest(unittest.TestCase):
    """0.3: rising is by Python's own order, with none twice."""

    def test_rising(self):
        made = Ring()
        shown = Panes()
        for word in ["b", "a", "ab", "z", "aa", "b", "a"]:
            made.keep(word, A)
            if word not in shown.names():
                shown.add(word, A)
        links = tuple(((), word, "open", (word,)) for word in ("b", "a", "ab", "b", "a"))
        places = [("b", "a"), ("ab",), ("b",), ("a", "z"), ("b", "a"), ("aa",)]
        for rows in [made.words(), made.words_under(A), shown.names(), words_at(links, A), reached(LINKS, ()),
                     dead_ends(links, ("a",) * 4), branches(places, ()), all_above(places), next_places(links, ())]:
            self.assertEqual(rows, sorted(set(rows)))
            self.assertGreater(len(rows), 0)


class EqualPartsTest(unittest.TestCase):
    """0.3: what is equal in its parts is one, though it was made elsewhere."""

    def test_places_made_elsewhere(self):
        made = book()
        self.assertEqual(made.nearest(tuple(["a"])), -1)
        self.assertEqual(read_place("/a/b"), AB)
        self.assertEqual(led((), tuple("ab")), AB)
        self.assertEqual(steps_to(tuple("ab"), AB), ())
        self.assertEqual(link_at(LINKS, tuple(["".join(["a"])]), "si" + "de"), LINKS[2])
        self.assertEqual(counts([AB, tuple("ab"), read_place("/a/b")]), {AB: 3})


if __name__ == "__main__":
    unittest.main()
