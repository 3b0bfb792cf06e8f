import itertools
import unittest

from cardplaces.books import Book
from cardplaces.errors import NoPlace, NotAsked, Round
from cardplaces.guards import GuardedBook, are_guards, says, verdict

A, B, C, D = ("a",), ("b",), ("c",), ("d",)
AB, AC = ("a", "b"), ("a", "c")
GUARD = (A, B, "stop")


def chain(many):
    """Guards that lead from /a on, one by one, so many times; the last place is let."""
    return tuple(((), (letter,), (letter_behind,))
                 for letter, letter_behind in zip("abcdefgh"[:many], "bcdefghi"))


class AreGuardsTest(unittest.TestCase):
    def check(self, thing, wanted):
        self.assertIs(are_guards(thing), wanted, repr(thing))

    def test_guards(self):
        for thing in [(), (GUARD,), (GUARD, GUARD), (((), (), ()),), ((A, B, C), (AB, (), "ask"), ((), AC, "let"))]:
            self.check(thing, True)

    def test_how_many(self):
        for many, wanted in [(0, True), (1, True), (7, True), (8, True), (9, False), (80, False)]:
            self.check((GUARD,) * many, wanted)

    def test_every_guard_counts(self):
        for spot in range(8):
            guards = [GUARD] * 8
            guards[spot] = (A, B, "stay")
            self.check(tuple(guards), False)

    def test_how_many_parts(self):
        self.check(((),), False)
        self.check(((A,),), False)
        self.check(((A, B),), False)
        self.check(((A, "stop"),), False)
        self.check(((A, B, "stop", "stop"),), False)
        self.check(((A, B, C, "stop"),), False)

    def test_a_guard_alone_is_no_tuple_of_guards(self):
        self.check(GUARD, False)
        self.check(((), (), ()), False)

    def test_words(self):
        for word in ["let", "stop", "ask"]:
            self.check(((A, B, word),), True)
        for word in ["", "le", "lets", "Let", "STOP", "ask ", "asks", "yes", "no", "a", "/", "/a", "letstop"]:
            self.check(((A, B, word),), False)

    def test_places_in_the_stead_of_words(self):
        for place in [(), A, ("let",), ("a",) * 6]:
            self.check(((A, B, place),), True)
        for thing in [("",), ("A",), ("abcde",), ("a",) * 7, ["a"], [], (("a",),)]:
            self.check(((A, B, thing),), False)

    def test_whence_and_whither_are_places(self):
        for thing in ["let", "stop", "a", "", ("A",), ("abcde",), ("a",) * 7, [], ["a"], 0, 1, True, False, None]:
            self.check(((thing, B, "let"),), False)
            self.check(((A, thing, "let"),), False)
        self.check((((), (), "let"),), True)
        self.check(((("a",) * 6, ("b",) * 6, "let"),), True)

    def test_lists_in_the_stead_of_tuples(self):
        for thing in [[], [GUARD], ([A, B, "stop"],), ((["a"], B, "stop"),), ((A, ["b"], "stop"),)]:
            self.check(thing, False)

    def test_things_of_other_kinds(self):
        for thing in [0, 1, -3, 10 ** 30, True, False, None, "", "let", "abc", "stop"]:
            self.check(thing, False)
            self.check((thing,), False)
            self.check([thing], False)
            self.check((thing, thing, thing), False)
            self.check((GUARD, thing), False)
            self.check(((A, B, thing),), thing in ("let", "stop"))

    def test_deep_things(self):
        deep_tuple, deep_list = (GUARD,), [GUARD]
        for layer in range(12):
            deep_tuple, deep_list = (deep_tuple,), [deep_list]
            self.check(deep_tuple, False)
            self.check(deep_list, False)
            self.check((deep_tuple, deep_list), False)
            self.check(((A, B, deep_tuple),), False)
            self.check(((deep_list, B, "let"),), False)

    def test_what_is_handed_in_is_not_changed(self):
        thing = [(A, B, "let"), ["a"]]
        are_guards(thing)
        self.assertEqual(thing, [(A, B, "let"), ["a"]])


class SaysTest(unittest.TestCase):
    def test_without_any(self):
        self.assertEqual(says((), A, B), "let")
        self.assertEqual(says((GUARD,), B, A), "let")

    def test_each_word_and_a_place(self):
        for word in ["let", "stop", "ask", (), C]:
            self.assertEqual(says(((A, B, word),), A, B), word)

    def test_start_and_goal_are_under(self):
        guards = ((A, AB, "stop"),)
        self.assertEqual(says(guards, A, AB), "stop")
        self.assertEqual(says(guards, ("a", "x"), ("a", "b", "y")), "stop")
        self.assertEqual(says(guards, (), AB), "let")
        self.assertEqual(says(guards, B, AB), "let")
        self.assertEqual(says(guards, A, A), "let")
        self.assertEqual(says(guards, A, AC), "let")

    def test_both_count(self):
        self.assertEqual(says((GUARD,), A, C), "let")
        self.assertEqual(says((GUARD,), C, B), "let")
        self.assertEqual(says((GUARD,), A, B), "stop")

    def test_the_first_of_several(self):
        guards = ((B, B, "ask"), (A, AB, "let"), (A, A, "stop"), ((), A, C), ((), (), "ask"))
        self.assertEqual(says(guards, A, AB), "let")
        self.assertEqual(says(guards, A, AC), "stop")
        self.assertEqual(says(guards, D, AC), C)
        self.assertEqual(says(guards, D, D), "ask")
        self.assertEqual(says(guards, B, B), "ask")


class VerdictTest(unittest.TestCase):
    def test_the_words(self):
        for word in ["let", "stop", "ask"]:
            self.assertEqual(verdict(((A, B, word),), A, B), (word, B))
        self.assertEqual(verdict((), A, B), ("let", B))

    def test_led_elsewhere(self):
        for word in ["let", "stop", "ask"]:
            self.assertEqual(verdict(((A, B, C), (A, C, word)), A, B), (word, C))
        self.assertEqual(verdict((((), A, ()),), B, AB), ("let", ()))
        self.assertIsInstance(verdict((), A, B), tuple)

    def test_the_start_stays(self):
        guards = ((A, B, C), (A, C, D), (B, C, "stop"), (C, D, "stop"))
        self.assertEqual(verdict(guards, A, B), ("let", D))

    def test_led_on_several_times(self):
        for many in range(7):
            self.assertEqual(verdict(chain(many), D, A), ("let", ("abcdefg"[many],)), many)

    def test_six_times_and_then_a_word(self):
        guards = chain(6) + (((), ("g",), "ask"),)
        self.assertEqual(verdict(guards, (), A), ("ask", ("g",)))

    def test_more_than_six_times(self):
        self.assertRaises(Round, verdict, chain(7), D, A)
        self.assertRaises(Round, verdict, chain(8), D, A)
        self.assertEqual(verdict(chain(7), D, B), ("let", ("h",)))

    def test_round_and_round(self):
        self.assertRaises(Round, verdict, (((), A, A),), D, A)
        self.assertRaises(Round, verdict, (((), A, B), ((), B, A)), D, B)
        self.assertRaises(Round, verdict, (((), (), ()),), D, D)


class GuardedTest(unittest.TestCase):
    def check(self, book, entries, number, waits=None):
        self.assertEqual(book.entries(), entries)
        self.assertEqual(book.number(), number)
        self.assertEqual(book.now(), entries[number])
        self.assertEqual(book.waits(), waits)

    def book(self, places, number, guards, most=9):
        """A guarded book with these entries; what guards ask on the way to them is answered by a yes."""
        book = GuardedBook(places[0], most, tuple(guards))
        deeds = [(book.visit, place) for place in places[1:]]
        if number + 1 < len(places):
            deeds.append((book.go, number + 1 - len(places)))
        for deed, part in deeds:
            if deed(part) == "ask":
                book.answer(True)
        self.check(book, list(places), number)
        return book


class GuardedVisitTest(GuardedTest):
    def test_at_first(self):
        self.check(GuardedBook(A, 3, ()), [A], 0)
        self.check(GuardedBook((), 3, (GUARD,)), [()], 0)

    def test_guards_are_not_asked_of_the_first_place(self):
        self.check(GuardedBook(A, 3, (((), (), "stop"),)), [A], 0)

    def test_let(self):
        book = GuardedBook(A, 3, ((A, B, "let"), ((), (), "stop")))
        self.assertEqual(book.visit(B), "let")
        self.check(book, [A, B], 1)

    def test_stop(self):
        book = GuardedBook(A, 3, (GUARD,))
        self.assertEqual(book.visit(B), "stop")
        self.check(book, [A], 0)

    def test_ask(self):
        book = GuardedBook(A, 3, ((A, B, "ask"),))
        self.assertEqual(book.visit(B), "ask")
        self.check(book, [A], 0, B)

    def test_the_place_without_words_waits(self):
        book = GuardedBook(A, 3, (((), (), "ask"),))
        self.assertEqual(book.visit(()), "ask")
        self.check(book, [A], 0, ())
        self.assertEqual(book.answer(True), ())
        self.check(book, [A, ()], 1)

    def test_led_elsewhere(self):
        self.assertEqual(self.led_visit("let"), ("let", [A, C], 1, None))
        self.assertEqual(self.led_visit("stop"), ("stop", [A], 0, None))
        self.assertEqual(self.led_visit("ask"), ("ask", [A], 0, C))

    def led_visit(self, word):
        book = GuardedBook(A, 3, (((), B, C), ((), C, word)))
        return (book.visit(B), book.entries(), book.number(), book.waits())

    def test_the_start_is_the_place_looked_at(self):
        book = GuardedBook(A, 9, ((B, C, "stop"),))
        self.assertEqual(book.visit(C), "let")
        self.assertEqual(book.visit(B), "let")
        self.assertEqual(book.visit(C), "stop")
        self.assertEqual(book.go(-1), "stop")
        self.assertEqual(book.go(-2), "let")
        self.assertEqual(book.visit(C), "let")
        self.check(book, [A, C], 1)

    def test_most(self):
        book = GuardedBook(A, 2, ())
        book.visit(B)
        book.visit(C)
        self.check(book, [B, C], 1)

    def test_a_let_visit_behind_a_go_back(self):
        book = self.book([A, B, C], 1, ())
        self.assertEqual(book.visit(D), "let")
        self.check(book, [A, B, D], 2)

    def test_a_stopped_or_asked_visit_leaves_what_is_ahead(self):
        for word, waits in [("stop", None), ("ask", D)]:
            book = self.book([A, B, C], 1, ((B, D, word),))
            self.assertEqual(book.visit(D), word)
            self.check(book, [A, B, C], 1, waits)

    def test_round(self):
        book = self.book([A, B, C], 1, (((), D, D),))
        self.assertRaises(Round, book.visit, D)
        self.check(book, [A, B, C], 1)

    def test_the_told_list_is_a_new_one(self):
        book = GuardedBook(A, 3, ())
        book.entries().append(B)
        book.entries()[0] = C
        self.check(book, [A], 0)

    def test_books_are_apart(self):
        one, other = GuardedBook(A, 3, ((A, B, "ask"),)), GuardedBook(A, 3, ((A, B, "ask"),))
        one.visit(C)
        one.go(-1)
        one.visit(B)
        self.check(other, [A], 0)


class GuardedGoTest(GuardedTest):
    def test_let(self):
        book = self.book([A, B, C], 1, ())
        self.assertEqual(book.go(1), "let")
        self.check(book, [A, B, C], 2)
        self.assertEqual(book.go(-2), "let")
        self.check(book, [A, B, C], 0)
        self.assertEqual(book.go(0), "let")
        self.check(book, [A, B, C], 0)

    def test_stop(self):
        book = self.book([A, B, C], 1, ((B, A, "stop"),))
        self.assertEqual(book.go(-1), "stop")
        self.check(book, [A, B, C], 1)

    def test_ask(self):
        book = self.book([A, B, C], 1, ((B, A, "ask"),))
        self.assertEqual(book.go(-1), "ask")
        self.check(book, [A, B, C], 1, A)

    def test_by_none(self):
        book = self.book([A, B, C], 1, ((B, B, "ask"),))
        self.assertEqual(book.go(0), "ask")
        self.check(book, [A, B, C], 1, B)
        self.assertEqual(book.answer(True), B)
        self.check(book, [A, B, C], 1)

    def test_led_elsewhere_it_visits(self):
        book = self.book([A, B, C], 1, (((), A, D),))
        self.assertEqual(book.go(-1), "let")
        self.check(book, [A, B, D], 2)

    def test_led_to_a_place_that_another_entry_has_it_visits(self):
        book = self.book([A, B, C], 1, ((B, A, C),))
        self.assertEqual(book.go(-1), "let")
        self.check(book, [A, B, C], 2)
        book = self.book([C, A, B, D], 2, ((B, A, C),))
        self.assertEqual(book.go(-1), "let")
        self.check(book, [C, A, B, C], 3)

    def test_led_to_the_place_looked_at_it_visits(self):
        book = self.book([A, B, C], 1, ((B, A, B),))
        self.assertEqual(book.go(-1), "let")
        self.check(book, [A, B, B], 2)

    def test_led_elsewhere_and_stopped_or_asked(self):
        for word, waits in [("stop", None), ("ask", D)]:
            book = self.book([A, B, C], 1, (((), A, D), ((), D, word)))
            self.assertEqual(book.go(-1), word)
            self.check(book, [A, B, C], 1, waits)

    def test_led_elsewhere_in_a_full_book(self):
        book = self.book([A, B], 1, ((B, A, D),), 2)
        self.assertEqual(book.go(-1), "let")
        self.check(book, [B, D], 1)

    def test_no_place(self):
        for word in ["let", "stop", "ask", A]:
            book = self.book([A, B, C], 1, ((B, A, word),))
            for by in [-2, 2, -5, 9]:
                self.assertRaises(NoPlace, book.go, by)
                self.check(book, [A, B, C], 1)
            book = GuardedBook(A, 9, (((), (), word),))
            for by in [-1, 1]:
                self.assertRaises(NoPlace, book.go, by)
                self.check(book, [A], 0)

    def test_round(self):
        book = self.book([A, B, C], 1, (((), A, A),))
        self.assertRaises(Round, book.go, -1)
        self.check(book, [A, B, C], 1)


class WaitingTest(GuardedTest):
    GUARDS = ((B, ("ask",), "ask"), (B, ("stop",), "stop"), (B, A, "ask"),
              (B, ("led",), D), (B, ("loop",), ("loop",)))

    def asked(self, by_go, last=D):
        """A book of A, B, C and a last place, looked at at B, in which something waits."""
        book = self.book([A, B, C, last], 1, self.GUARDS)
        self.assertEqual(book.go(-1) if by_go else book.visit(("ask",)), "ask")
        self.check(book, [A, B, C, last], 1, A if by_go else ("ask",))
        return book

    def test_refused_all_is_as_it_was(self):
        for by_go in (True, False):
            book = self.asked(by_go, ("loop",))
            waits = book.waits()
            for deed, part, refusal in [(book.visit, ("loop",), Round), (book.go, 2, Round),
                                        (book.go, 3, NoPlace), (book.go, -2, NoPlace)]:
                self.assertRaises(refusal, deed, part)
                self.check(book, [A, B, C, ("loop",)], 1, waits)
            self.assertEqual(book.answer(True), waits)
            self.assertEqual(book.number(), 0 if by_go else 2)

    def test_a_visit_that_is_stopped(self):
        for by_go in (True, False):
            book = self.asked(by_go)
            self.assertEqual(book.visit(("stop",)), "stop")
            self.check(book, [A, B, C, D], 1)
            self.assertRaises(NotAsked, book.answer, True)

    def test_a_visit_that_is_let(self):
        for by_go, place in itertools.product((True, False), [D, ("led",)]):
            book = self.asked(by_go)
            self.assertEqual(book.visit(place), "let")
            self.check(book, [A, B, D], 2)
            self.assertRaises(NotAsked, book.answer, True)
            self.check(book, [A, B, D], 2)

    def test_a_visit_that_is_asked(self):
        for by_go in (True, False):
            book = self.asked(by_go)
            self.assertEqual(book.visit(("ask", "x")), "ask")
            self.check(book, [A, B, C, D], 1, ("ask", "x"))
            self.assertEqual(book.answer(True), ("ask", "x"))
            self.check(book, [A, B, ("ask", "x")], 2)

    def test_a_go_that_is_stopped(self):
        for by_go in (True, False):
            book = self.asked(by_go, ("stop",))
            self.assertEqual(book.go(2), "stop")
            self.check(book, [A, B, C, ("stop",)], 1)
            self.assertRaises(NotAsked, book.answer, False)

    def test_a_go_that_is_let(self):
        for by_go, by in itertools.product((True, False), (0, 1, 2)):
            book = self.asked(by_go)
            self.assertEqual(book.go(by), "let")
            self.check(book, [A, B, C, D], 1 + by)
            self.assertRaises(NotAsked, book.answer, True)

    def test_a_go_that_is_let_elsewhere(self):
        for by_go in (True, False):
            book = self.asked(by_go, ("led",))
            self.assertEqual(book.go(2), "let")
            self.check(book, [A, B, D], 2)
            self.assertRaises(NotAsked, book.answer, True)

    def test_a_go_that_is_asked(self):
        for by_go in (True, False):
            book = self.asked(by_go, ("ask", "x"))
            self.assertEqual(book.go(2), "ask")
            self.check(book, [A, B, C, ("ask", "x")], 1, ("ask", "x"))
            self.assertEqual(book.answer(True), ("ask", "x"))
            self.check(book, [A, B, C, ("ask", "x")], 3)


class AnswerTest(GuardedTest):
    def test_not_asked(self):
        book = self.book([A, B, C], 1, ((B, D, "stop"),))
        for is_yes in (True, False):
            self.assertRaises(NotAsked, book.answer, is_yes)
            book.visit(D)
            self.assertRaises(NotAsked, book.answer, is_yes)
            self.check(book, [A, B, C], 1)

    def test_a_yes_to_a_visit(self):
        book = self.book([A, B, C], 1, ((B, D, "ask"),))
        book.visit(D)
        self.assertEqual(book.answer(True), D)
        self.check(book, [A, B, D], 2)

    def test_a_no_to_a_visit(self):
        book = self.book([A, B, C], 1, ((B, D, "ask"),))
        book.visit(D)
        self.assertEqual(book.answer(False), B)
        self.check(book, [A, B, C], 1)

    def test_a_yes_to_a_go(self):
        for by in (-1, 0, 1):
            book = self.book([A, B, C], 1, (((), (), "ask"),))
            book.go(by)
            self.assertEqual(book.answer(True), [A, B, C][1 + by])
            self.check(book, [A, B, C], 1 + by)

    def test_a_no_to_a_go(self):
        book = self.book([A, B, C], 1, (((), (), "ask"),))
        book.go(-1)
        self.assertEqual(book.answer(False), B)
        self.check(book, [A, B, C], 1)

    def test_a_go_among_entries_of_one_place(self):
        book = self.book([A, A, A, A], 2, (((), (), "ask"),))
        book.go(-2)
        self.assertEqual(book.answer(True), A)
        self.check(book, [A, A, A, A], 0)

    def test_a_visit_that_was_led_elsewhere(self):
        for is_yes, entries, number in [(True, [A, B, D], 2), (False, [A, B, C], 1)]:
            book = self.book([A, B, C], 1, ((B, AB, D), (B, D, "ask")))
            book.visit(AB)
            self.check(book, [A, B, C], 1, D)
            self.assertEqual(book.answer(is_yes), entries[number])
            self.check(book, entries, number)

    def test_a_go_that_was_led_elsewhere(self):
        for is_yes, entries, number in [(True, [A, B, D], 2), (False, [A, B, C], 1)]:
            book = self.book([A, B, C], 1, ((B, A, D), (B, D, "ask")))
            book.go(-1)
            self.check(book, [A, B, C], 1, D)
            self.assertEqual(book.answer(is_yes), entries[number])
            self.check(book, entries, number)

    def test_a_yes_in_a_full_book(self):
        book = self.book([A, B], 1, ((B, D, "ask"),), 2)
        book.visit(D)
        book.answer(True)
        self.check(book, [B, D], 1)

    def test_answered_once(self):
        for is_yes in (True, False):
            book = self.book([A, B, C], 1, ((B, D, "ask"),))
            book.visit(D)
            book.answer(is_yes)
            entries, number = book.entries(), book.number()
            self.assertRaises(NotAsked, book.answer, True)
            self.assertRaises(NotAsked, book.answer, False)
            self.check(book, entries, number)

    def test_a_yes_asks_no_guards_again(self):
        book = self.book([A, B, C], 1, (((), (), "ask"),))
        book.visit(D)
        self.assertEqual(book.answer(True), D)
        self.check(book, [A, B, D], 2)


class WholeGuardsTest(GuardedTest):
    DEEDS = [("visit", A), ("visit", AB), ("visit", B), ("go", -1), ("go", 1), ("go", -2)]

    def do(self, book, deed):
        try:
            return getattr(book, deed[0])(deed[1])
        except NoPlace:
            return None

    def same(self, one, other):
        self.assertEqual(one.entries(), other.entries())
        self.assertEqual(one.number(), other.number())
        self.assertEqual(one.now(), other.now())

    def test_what_guards_let_is_as_without_them(self):
        for guards in [(), (((), A, "let"), (A, (), "let"))]:
            for deeds in itertools.product(self.DEEDS, repeat=4):
                plain, guarded = Book(A, 3), GuardedBook(A, 3, guards)
                for deed in deeds:
                    self.do(plain, deed)
                    self.do(guarded, deed)
                    self.same(plain, guarded)

    def test_what_they_stop_changes_nothing(self):
        for deeds in itertools.product(self.DEEDS, repeat=4):
            plain, guarded = Book(A, 3), GuardedBook(A, 3, (((), B, "stop"),))
            for deed in deeds:
                if self.do(guarded, deed) == "let":
                    self.do(plain, deed)
                self.same(plain, guarded)

    def test_what_they_ask_is_done_by_a_yes_alone(self):
        for deeds in itertools.product(self.DEEDS, repeat=4):
            plain, guarded = Book(A, 3), GuardedBook(A, 3, (((), (), "ask"),))
            for spot, deed in enumerate(deeds):
                word = self.do(guarded, deed)
                self.same(plain, guarded)
                if word == "ask" and spot % 2 == 0:
                    self.do(plain, deed)
                    self.assertEqual(guarded.answer(True), plain.now())
                elif word == "ask" and spot == 1:
                    self.assertEqual(guarded.answer(False), plain.now())
                self.same(plain, guarded)


if __name__ == "__main__":
    unittest.main()
