import itertools
import unittest

from cardplaces.askers import Asker
from cardplaces.books import Book
from cardplaces.errors import NoPlace

A, B, C, D = ("a",), ("b",), ("c",), ("d",)
NO_TICKETS = [-1, -2, 1000, 10 ** 30, -10 ** 30]


def asker_of(places, number, most=9):
    """An asker of these places, looked at at this number, and the next ticket."""
    asker = Asker(places[0], most)
    for place in places[1:]:
        asker.came(asker.ask(place))
    ticket = asker.ask_go(number - asker.number())
    asker.came(ticket)
    return asker, ticket + 1


class AskerTest(unittest.TestCase):
    def check(self, asker, entries, number, waiting=None):
        self.assertEqual(asker.entries(), entries)
        self.assertEqual(asker.number(), number)
        self.assertEqual(asker.now(), entries[number])
        self.assertEqual(asker.waiting(), waiting)
        self.assertIs(asker.waiting() is None, waiting is None)


class AskTest(AskerTest):
    def test_at_first(self):
        for place in [(), A, ("a", "b"), ("a",) * 6]:
            self.check(Asker(place, 1), [place], 0)

    def test_a_visit_is_not_done_yet(self):
        asker = Asker(A, 9)
        self.assertEqual(asker.ask(B), 0)
        self.check(asker, [A], 0, 0)

    def test_a_visit_that_came(self):
        asker = Asker(A, 9)
        self.assertIs(asker.came(asker.ask(B)), True)
        self.check(asker, [A, B], 1)

    def test_the_place_without_words_comes(self):
        asker = Asker(A, 9)
        asker.ask(())
        self.check(asker, [A], 0, 0)
        self.assertIs(asker.came(0), True)
        self.check(asker, [A, ()], 1)

    def test_the_place_looked_at_comes_again(self):
        asker = Asker(A, 9)
        self.assertIs(asker.came(asker.ask(A)), True)
        self.check(asker, [A, A], 1)

    def test_what_was_ahead_stays_until_a_visit_came(self):
        asker, ticket = asker_of([A, B, C], 0)
        self.assertEqual(asker.ask(D), ticket)
        self.check(asker, [A, B, C], 0, ticket)
        self.assertIs(asker.came(ticket), True)
        self.check(asker, [A, D], 1)

    def test_tickets_rise_by_one(self):
        asker = Asker(A, 9)
        self.assertEqual([asker.ask(B), asker.ask(B), asker.ask_go(0), asker.ask(C), asker.ask_go(0)], [0, 1, 2, 3, 4])

    def test_tickets_rise_whatever_becomes_of_them(self):
        asker = Asker(A, 9)
        self.assertEqual(asker.ask(B), 0)
        asker.came(0)
        self.assertEqual(asker.ask_go(-1), 1)
        asker.failed(1)
        self.assertEqual(asker.ask_go(-1), 2)
        asker.stop()
        self.assertEqual(asker.ask(C), 3)
        asker.came(0)
        asker.failed(77)
        self.assertEqual(asker.ask(C), 4)
        self.assertRaises(NoPlace, asker.ask_go, 5)
        self.assertEqual(asker.ask_go(0), 5)

    def test_only_the_last_is_waited_for(self):
        asker = Asker(A, 9)
        for ticket, place in enumerate([B, C, D]):
            self.assertEqual(asker.ask(place), ticket)
            self.check(asker, [A], 0, ticket)
        for ticket in (0, 1):
            self.assertIs(asker.came(ticket), False)
            self.check(asker, [A], 0, 2)
        self.assertIs(asker.came(2), True)
        self.check(asker, [A, D], 1)

    def test_a_go_in_the_stead_of_a_visit_and_the_other_way_round(self):
        asker, ticket = asker_of([A, B, C], 1)
        asker.ask(D)
        asker.ask_go(1)
        self.check(asker, [A, B, C], 1, ticket + 1)
        self.assertIs(asker.came(ticket), False)
        self.assertIs(asker.came(ticket + 1), True)
        self.check(asker, [A, B, C], 2)
        asker.ask_go(-2)
        asker.ask(D)
        self.assertIs(asker.came(ticket + 2), False)
        self.check(asker, [A, B, C], 2, ticket + 3)
        self.assertIs(asker.came(ticket + 3), True)
        self.check(asker, [A, B, C, D], 3)

    def test_what_is_told_of_nothing(self):
        asker = Asker(A, 9)
        self.assertIsNone(asker.stop())
        asker.ask(B)
        self.assertIsNone(asker.stop())

    def test_the_told_list_is_a_new_one(self):
        asker = Asker(A, 9)
        asker.entries().append(B)
        asker.entries()[0] = C
        self.check(asker, [A], 0)
        self.assertIsNot(asker.entries(), asker.entries())

    def test_askers_are_apart(self):
        one, other = Asker(A, 9), Asker(A, 9)
        one.ask(B)
        self.check(other, [A], 0)
        one.came(0)
        self.check(other, [A], 0)
        self.assertEqual(other.ask(C), 0)
        self.check(one, [A, B], 1)


class AskGoTest(AskerTest):
    def test_a_go_is_not_done_yet(self):
        for by in (-1, 0, 1, 2):
            asker, ticket = asker_of([A, B, C, D], 1)
            self.assertEqual(asker.ask_go(by), ticket)
            self.check(asker, [A, B, C, D], 1, ticket)
            self.assertIs(asker.came(ticket), True)
            self.check(asker, [A, B, C, D], 1 + by)

    def test_behind_a_go_that_is_waited_for(self):
        asker, ticket = asker_of([A, B, C, D], 0)
        asker.ask_go(2)
        self.assertEqual(asker.ask_go(1), ticket + 1)
        self.check(asker, [A, B, C, D], 0, ticket + 1)
        self.assertIs(asker.came(ticket), False)
        self.assertIs(asker.came(ticket + 1), True)
        self.check(asker, [A, B, C, D], 3)

    def test_behind_several_goes(self):
        asker, ticket = asker_of([A, B, C, D], 3)
        for by in (-1, -1, -1, 2, 0, -1):
            asker.ask_go(by)
        self.check(asker, [A, B, C, D], 3, ticket + 5)
        self.assertIs(asker.came(ticket + 5), True)
        self.check(asker, [A, B, C, D], 1)

    def test_back_to_the_entry_looked_at(self):
        asker, ticket = asker_of([A, B, C], 1)
        asker.ask_go(1)
        asker.ask_go(-1)
        self.assertIs(asker.came(ticket + 1), True)
        self.check(asker, [A, B, C], 1)

    def test_among_entries_of_one_place(self):
        asker, ticket = asker_of([A, A, A, A], 3)
        asker.ask_go(-1)
        asker.ask_go(-1)
        asker.came(ticket + 1)
        self.check(asker, [A, A, A, A], 1)

    def test_behind_a_visit_that_is_waited_for(self):
        asker, ticket = asker_of([A, B, C], 1)
        asker.ask(D)
        self.assertEqual(asker.ask_go(-1), ticket + 1)
        self.assertIs(asker.came(ticket + 1), True)
        self.check(asker, [A, B, C], 0)

    def test_behind_a_visit_that_took_the_stead_of_a_go(self):
        asker, ticket = asker_of([A, B, C], 0)
        asker.ask_go(2)
        asker.ask(D)
        asker.ask_go(1)
        self.assertIs(asker.came(ticket + 2), True)
        self.check(asker, [A, B, C], 1)

    def test_behind_a_go_that_came(self):
        asker, ticket = asker_of([A, B, C, D], 0)
        asker.came(asker.ask_go(2))
        asker.came(asker.ask_go(1))
        self.check(asker, [A, B, C, D], 3)
        self.assertRaises(NoPlace, asker.ask_go, 1)

    def test_behind_a_go_that_failed_or_was_stopped(self):
        for end in (lambda asker, ticket: asker.failed(ticket), lambda asker, ticket: asker.stop()):
            asker, ticket = asker_of([A, B, C, D], 0)
            end(asker, asker.ask_go(2))
            self.assertRaises(NoPlace, asker.ask_go, -1)
            self.check(asker, [A, B, C, D], 0)
            asker.came(asker.ask_go(1))
            self.check(asker, [A, B, C, D], 1)

    def test_behind_a_visit_that_came_failed_or_was_stopped(self):
        ends = [(lambda asker, ticket: asker.came(ticket), [A, B, D], 2),
                (lambda asker, ticket: asker.failed(ticket), [A, B, C], 1),
                (lambda asker, ticket: asker.stop(), [A, B, C], 1)]
        for end, entries, number in ends:
            asker, ticket = asker_of([A, B, C], 1)
            end(asker, asker.ask(D))
            self.check(asker, entries, number)
            self.assertEqual(asker.ask_go(-1), ticket + 1)
            self.assertIs(asker.came(ticket + 1), True)
            self.check(asker, entries, number - 1)

    def test_behind_one_that_was_late(self):
        asker, ticket = asker_of([A, B, C, D], 0)
        asker.ask_go(1)
        asker.ask_go(1)
        asker.came(ticket)
        asker.failed(ticket)
        asker.ask_go(1)
        self.assertIs(asker.came(ticket + 2), True)
        self.check(asker, [A, B, C, D], 3)

    def test_no_place(self):
        for number in range(3):
            for by in (-9, -3, 3 - number, -1 - number, 3, 9):
                asker, ticket = asker_of([A, B, C], number)
                self.assertRaises(NoPlace, asker.ask_go, by)
                self.check(asker, [A, B, C], number)
                self.assertEqual(asker.ask(D), ticket)

    def test_no_place_behind_a_go(self):
        asker, ticket = asker_of([A, B, C], 0)
        asker.ask_go(2)
        for by in (1, 2, -3, 7, -7):
            self.assertRaises(NoPlace, asker.ask_go, by)
            self.check(asker, [A, B, C], 0, ticket)
        self.assertEqual(asker.ask_go(-1), ticket + 1)
        self.assertIs(asker.came(ticket + 1), True)
        self.check(asker, [A, B, C], 1)

    def test_a_refused_go_leaves_the_go_that_is_waited_for(self):
        asker, ticket = asker_of([A, B, C], 0)
        asker.ask_go(2)
        self.assertRaises(NoPlace, asker.ask_go, 1)
        self.assertIs(asker.came(ticket), True)
        self.check(asker, [A, B, C], 2)

    def test_a_refused_go_leaves_the_visit_that_is_waited_for(self):
        asker, ticket = asker_of([A, B, C], 1)
        asker.ask(D)
        for by in (2, -2):
            self.assertRaises(NoPlace, asker.ask_go, by)
            self.check(asker, [A, B, C], 1, ticket)
        self.assertIs(asker.came(ticket), True)
        self.check(asker, [A, B, D], 2)
        self.assertEqual(asker.ask(A), ticket + 1)


class CameTest(AskerTest):
    def test_one_that_came_already(self):
        for by_go in (True, False):
            asker, ticket = asker_of([A, B, C], 1)
            asker.came(asker.ask_go(-1) if by_go else asker.ask(D))
            entries, number = asker.entries(), asker.number()
            self.assertIs(asker.came(ticket), False)
            self.assertIs(asker.failed(ticket), False)
            self.check(asker, entries, number)

    def test_one_that_failed(self):
        for by_go in (True, False):
            asker, ticket = asker_of([A, B, C], 1)
            self.assertIs(asker.failed(asker.ask_go(-1) if by_go else asker.ask(D)), True)
            self.check(asker, [A, B, C], 1)
            self.assertIs(asker.came(ticket), False)
            self.assertIs(asker.failed(ticket), False)
            self.check(asker, [A, B, C], 1)

    def test_one_that_was_stopped(self):
        for by_go in (True, False):
            asker, ticket = asker_of([A, B, C], 1)
            asker.ask_go(-1) if by_go else asker.ask(D)
            asker.stop()
            self.check(asker, [A, B, C], 1)
            self.assertIs(asker.came(ticket), False)
            self.assertIs(asker.failed(ticket), False)
            self.check(asker, [A, B, C], 1)

    def test_an_elder_one(self):
        for by_go in (True, False):
            asker, ticket = asker_of([A, B, C], 1)
            asker.ask(D)
            asker.ask_go(-1) if by_go else asker.ask(A)
            for elder in range(ticket + 1):
                self.assertIs(asker.came(elder), False)
                self.assertIs(asker.failed(elder), False)
                self.check(asker, [A, B, C], 1, ticket + 1)

    def test_elder_ones_are_not_waited_for_behind_a_younger_one(self):
        for end in ("came", "failed"):
            asker = Asker(A, 9)
            asker.ask(B)
            asker.ask(C)
            getattr(asker, end)(1)
            entries = asker.entries()
            self.assertIs(asker.came(0), False)
            self.assertIs(asker.failed(0), False)
            self.check(asker, entries, len(entries) - 1)

    def test_no_tickets(self):
        asker = Asker(A, 9)
        for ticket in NO_TICKETS + [0, 1]:
            self.assertIs(asker.came(ticket), False)
            self.assertIs(asker.failed(ticket), False)
            self.check(asker, [A], 0)
        asker.ask(B)
        for ticket in NO_TICKETS + [1]:
            self.assertIs(asker.came(ticket), False)
            self.assertIs(asker.failed(ticket), False)
            self.check(asker, [A], 0, 0)
        self.assertIs(asker.came(0), True)

    def test_a_ticket_before_it_is_told(self):
        asker = Asker(A, 9)
        asker.came(0)
        asker.failed(0)
        self.assertEqual(asker.ask(B), 0)
        self.check(asker, [A], 0, 0)

    def test_stop_without_anything(self):
        asker, ticket = asker_of([A, B, C], 1)
        asker.stop()
        asker.stop()
        self.check(asker, [A, B, C], 1)
        self.assertEqual(asker.ask(D), ticket)

    def test_most_one(self):
        asker = Asker(A, 1)
        self.assertIs(asker.came(asker.ask(B)), True)
        self.check(asker, [B], 0)
        self.assertRaises(NoPlace, asker.ask_go, -1)
        self.assertRaises(NoPlace, asker.ask_go, 1)
        self.assertEqual(asker.ask_go(0), 1)
        self.assertIs(asker.came(1), True)
        self.check(asker, [B], 0)
        asker.ask(C)
        self.check(asker, [B], 0, 2)
        asker.failed(2)
        self.check(asker, [B], 0)

    def test_a_full_book(self):
        asker, ticket = asker_of([A, B, C], 2, 3)
        asker.ask(D)
        self.check(asker, [A, B, C], 2, ticket)
        self.assertIs(asker.came(ticket), True)
        self.check(asker, [B, C, D], 2)
        asker.came(asker.ask_go(-2))
        self.check(asker, [B, C, D], 0)
        asker.came(asker.ask(A))
        self.check(asker, [B, A], 1)


class WholeAskerTest(AskerTest):
    """All rows of some deeds, against a model that knows the outcome of each ticket when it is asked for."""

    DEEDS = [("ask", A), ("ask", B), ("ask_go", -1), ("ask_go", 1), ("ask_go", -2),
             ("last", "came"), ("last", "failed"), ("elder", "came"), ("stop", None)]

    def visited(self, entries, number, place):
        entries = (entries[:number + 1] + [place])[-3:]
        return entries, len(entries) - 1

    def asked_for(self, state, waited, deed):
        entries, number = state
        if deed[0] == "ask":
            return self.visited(entries, number, deed[1])
        start = waited[1][1] if waited and waited[2] else number
        return (entries, start + deed[1]) if 0 <= start + deed[1] < len(entries) else None

    def ask(self, asker, deed, outcome, ticket):
        if outcome is None:
            self.assertRaises(NoPlace, asker.ask_go, deed[1])
        else:
            self.assertEqual(getattr(asker, deed[0])(deed[1]), ticket)

    def run_row(self, deeds):
        asker, state, waited, tickets = Asker(C, 3), ([C], 0), None, 0
        for deed in deeds:
            if deed[0] in ("ask", "ask_go"):
                outcome = self.asked_for(state, waited, deed)
                self.ask(asker, deed, outcome, tickets)
                if outcome is not None:
                    waited = (tickets, outcome, deed[0] == "ask_go")
                    tickets += 1
            elif deed[0] == "stop":
                asker.stop()
                waited = None
            elif deed[0] == "elder":
                self.assertIs(asker.came(tickets - 2), False)
            else:
                self.assertIs(getattr(asker, deed[1])(tickets - 1), waited is not None)
                if waited is not None and deed[1] == "came":
                    state = waited[1]
                waited = None
            self.check(asker, state[0], state[1], waited[0] if waited else None)

    def test_all_rows(self):
        for deeds in itertools.product(self.DEEDS, repeat=4):
            self.run_row(deeds)

    def test_all_rows_behind_some_visits(self):
        visits = (("ask", A), ("last", "came"), ("ask", B), ("last", "came"))
        for deeds in itertools.product(self.DEEDS, repeat=4):
            self.run_row(visits + deeds)

    def test_what_comes_at_once_is_as_in_a_book(self):
        for deeds in itertools.product([("visit", A), ("visit", B), ("go", -1), ("go", 1), ("go", 0)], repeat=4):
            book, asker = Book(C, 3), Asker(C, 3)
            for deed, part in deeds:
                if deed == "visit":
                    book.visit(part)
                    asker.came(asker.ask(part))
                elif book.can_go(part):
                    book.go(part)
                    asker.came(asker.ask_go(part))
                else:
                    self.assertRaises(NoPlace, asker.ask_go, part)
                self.check(asker, book.entries(), book.number())


if __name__ == "__main__":
    unittest.main()
