import itertools
import unittest

from cardplaces.books import Book
from cardplaces.errors import BookError, NoPlace

A, B, C, D = ("a",), ("b",), ("c",), ("d",)
AB, AC = ("a", "b"), ("a", "c")


def book_of(places, number, most=20):
    book = Book(places[0], most)
    for place in places[1:]:
        book.visit(place)
    book.go(number - len(places) + 1)
    return book


def marked_book(places, number, most=20):
    """A book whose entries keep 100, 101, .. by their numbers."""
    book = book_of(places, 0, most)
    for spot in range(len(places)):
        book.mark(100 + spot)
        if spot + 1 < len(places):
            book.go(1)
    book.go(number - len(places) + 1)
    return book


def shown(book):
    """All that a book tells, with the looked-at entry as it was."""
    number = book.number()
    entries = book.entries()
    marks = []
    for spot in range(len(entries)):
        book.go(spot - book.number())
        marks.append(book.marked())
    book.go(number - book.number())
    return (entries, number, book.now(), marks)


class BookTest(unittest.TestCase):
    def check(self, book, entries, number):
        self.assertEqual(book.entries(), entries)
        self.assertEqual(book.number(), number)
        self.assertIs(type(book.number()), int)
        self.assertEqual(book.now(), entries[number])


class VisitTest(BookTest):
    def test_at_first_one_entry(self):
        for place in [(), A, AB]:
            self.check(Book(place, 3), [place], 0)

    def test_visits(self):
        book = Book(A, 5)
        book.visit(B)
        self.check(book, [A, B], 1)
        book.visit(())
        self.check(book, [A, B, ()], 2)

    def test_a_visit_of_the_same_place_is_one_more_entry(self):
        book = Book(A, 5)
        book.visit(A)
        self.check(book, [A, A], 1)

    def test_a_book_of_most_one(self):
        book = Book(A, 1)
        book.visit(B)
        self.check(book, [B], 0)
        book.visit(C)
        self.check(book, [C], 0)
        self.assertFalse(book.can_go(-1))

    def test_as_many_as_most_and_more(self):
        book = Book(A, 3)
        book.visit(B)
        book.visit(C)
        self.check(book, [A, B, C], 2)
        book.visit(D)
        self.check(book, [B, C, D], 2)
        book.visit(AB)
        self.check(book, [C, D, AB], 2)

    def test_a_visit_behind_a_go_back(self):
        book = book_of([A, B, C, D], 1)
        book.visit(AB)
        self.check(book, [A, B, AB], 2)
        self.assertFalse(book.can_go(1))

    def test_a_visit_from_the_first_entry(self):
        book = book_of([A, B, C], 0)
        book.visit(D)
        self.check(book, [A, D], 1)

    def test_a_full_book_loses_none_where_those_ahead_go(self):
        book = book_of([A, B, C], 1, 3)
        book.visit(D)
        self.check(book, [A, B, D], 2)

    def test_a_full_book_looked_at_at_its_end_loses_its_first(self):
        book = marked_book([A, B, C], 2, 3)
        book.visit(D)
        self.assertEqual(shown(book), ([B, C, D], 2, D, [101, 102, 0]))

    def test_it_tells_none(self):
        book = Book(A, 2)
        self.assertIsNone(book.visit(B))
        self.assertIsNone(book.visit(C))

    def test_the_told_list_is_a_new_one(self):
        book = book_of([A, B, C], 1)
        told = book.entries()
        self.assertIsNot(told, book.entries())
        told.append(D)
        told[0] = D
        self.check(book, [A, B, C], 1)
        told.clear()
        book.visit(D)
        self.check(book, [A, B, D], 2)

    def test_an_older_told_list_stays(self):
        book = book_of([A, B, C], 1)
        told = book.entries()
        book.visit(D)
        book.replace(())
        book.drop(A)
        self.assertEqual(told, [A, B, C])

    def test_books_are_apart(self):
        one, other = Book(A, 3), Book(A, 3)
        one.visit(B)
        one.mark(7)
        self.check(other, [A], 0)
        self.assertEqual(other.marked(), 0)


class ReplaceTest(BookTest):
    def test_the_entry_looked_at_has_the_place(self):
        book = book_of([A, B, C], 1)
        self.assertIsNone(book.replace(D))
        self.check(book, [A, D, C], 1)

    def test_those_ahead_stay(self):
        book = book_of([A, B, C], 0)
        book.replace(D)
        self.check(book, [D, B, C], 0)
        self.assertTrue(book.can_go(2))

    def test_a_full_book_stays_full(self):
        book = book_of([A, B], 1, 2)
        book.replace(D)
        self.check(book, [A, D], 1)


class GoTest(BookTest):
    def test_on_back_and_by_none(self):
        book = book_of([A, B, C, D], 1)
        self.assertEqual(book.go(0), B)
        self.check(book, [A, B, C, D], 1)
        self.assertEqual(book.go(2), D)
        self.check(book, [A, B, C, D], 3)
        self.assertEqual(book.go(-3), A)
        self.check(book, [A, B, C, D], 0)
        self.assertEqual(book.go(1), B)

    def test_can_go_at_every_edge(self):
        for number in range(4):
            book = book_of([A, B, C, D], number)
            for by in range(-9, 10):
                self.assertIs(book.can_go(by), by in range(-number, 4 - number), (number, by))
            self.check(book, [A, B, C, D], number)

    def test_too_far_is_refused_and_changes_nothing(self):
        for number in range(4):
            book = marked_book([A, B, C, D], number)
            ahead = shown(book)
            for by in [-number - 1, 4 - number, -number - 4, 8 - number, -100, 100]:
                self.assertRaises(NoPlace, book.go, by)
                self.assertEqual(shown(book), ahead)

    def test_the_refusal_is_a_book_error(self):
        self.assertRaises(BookError, Book(A, 1).go, 1)

    def test_one_entry(self):
        book = Book(A, 4)
        self.assertIs(book.can_go(0), True)
        self.assertIs(book.can_go(1), False)
        self.assertIs(book.can_go(-1), False)
        self.assertEqual(book.go(0), A)

    def test_back_and_forth_again_one_is_where_one_was(self):
        for number in range(4):
            book = marked_book([A, B, A, C], number)
            ahead = shown(book)
            for by in range(-number, 4 - number):
                book.go(by)
                book.go(-by)
                self.assertEqual(shown(book), ahead)


class MarkTest(BookTest):
    def test_none_at_first(self):
        book = Book(A, 3)
        self.assertEqual(book.marked(), 0)
        book.visit(B)
        self.assertEqual(book.marked(), 0)

    def test_kept_by_the_entry_looked_at(self):
        book = Book(A, 3)
        self.assertIsNone(book.mark(5))
        self.assertEqual(book.marked(), 5)
        self.check(book, [A], 0)
        book.mark(-8)
        self.assertEqual(book.marked(), -8)
        book.mark(0)
        self.assertEqual(book.marked(), 0)

    def test_kept_over_going_back_and_forth(self):
        book = Book(A, 5)
        book.mark(1)
        book.visit(B)
        book.mark(2)
        book.visit(A)
        self.assertEqual(book.marked(), 0)
        book.mark(3)
        self.assertEqual(shown(book), ([A, B, A], 2, A, [1, 2, 3]))
        book.go(-2)
        self.assertEqual(book.marked(), 1)
        book.go(1)
        self.assertEqual(book.marked(), 2)
        book.go(1)
        self.assertEqual(book.marked(), 3)

    def test_an_entry_that_came_has_none(self):
        book = marked_book([A, B, C], 1)
        book.visit(C)
        self.assertEqual(shown(book), ([A, B, C], 2, C, [100, 101, 0]))

    def test_an_entry_that_was_replaced_has_none(self):
        book = marked_book([A, B, C], 1)
        book.replace(D)
        self.assertEqual(shown(book), ([A, D, C], 1, D, [100, 0, 102]))

    def test_replaced_by_its_own_place_it_has_none(self):
        book = marked_book([A, B], 1)
        book.replace(B)
        self.assertEqual(shown(book), ([A, B], 1, B, [100, 0]))
        book.mark(4)
        self.assertEqual(book.marked(), 4)


class NearestTest(BookTest):
    def check_nearest(self, places, number, place, wanted):
        book = marked_book(places, number)
        ahead = shown(book)
        self.assertEqual(book.nearest(place), wanted, (places, number, place))
        self.assertEqual(shown(book), ahead)

    def test_on_and_back(self):
        self.check_nearest([A, B, C], 0, C, 2)
        self.check_nearest([A, B, C], 2, A, -2)
        self.check_nearest([A, B, C], 1, C, 1)

    def test_the_nearer_of_two(self):
        self.check_nearest([A, B, C, C, A], 1, A, -1)
        self.check_nearest([A, B, B, C, A], 3, A, 1)
        self.check_nearest([A, A, A, B], 3, A, -1)
        self.check_nearest([B, A, A, A], 0, A, 1)

    def test_of_two_as_near_the_one_further_back(self):
        self.check_nearest([A, B, A], 1, A, -1)
        self.check_nearest([A, B, C, D, A], 2, A, -2)

    def test_the_place_looked_at(self):
        self.check_nearest([A, B, A], 0, A, 0)
        self.check_nearest([A, A, A], 1, A, 0)
        self.check_nearest([()], 0, (), 0)

    def test_without_any(self):
        self.check_nearest([A, B], 1, C, None)
        self.check_nearest([A, B], 1, (), None)

    def test_places_under_it_are_not_it(self):
        self.check_nearest([A, B], 1, AB, None)
        self.check_nearest([AB, B, C, A], 1, A, 2)

    def test_it_leads_there(self):
        for places in itertools.product([A, B], repeat=4):
            for number, place in itertools.product(range(4), [A, B]):
                book = book_of(places, number)
                way = book.nearest(place)
                spots = [spot for spot in range(4) if places[spot] == place]
                if spots:
                    nearest = sorted(spots, key=lambda spot: (abs(spot - number), spot))[0]
                    self.assertEqual(way, nearest - number)
                    self.assertEqual(book.go(way), place)
                else:
                    self.assertIsNone(way)


class DropTest(BookTest):
    def check_drop(self, places, number, other, many, wanted):
        book = marked_book(places, number)
        told = book.drop(other)
        self.assertEqual(told, many)
        self.assertIs(type(told), int)
        self.assertEqual(shown(book), wanted)

    def test_entries_on_both_sides(self):
        self.check_drop([AB, B, C, AC, D], 2, A, 2, ([B, C, D], 1, C, [101, 102, 104]))

    def test_entries_behind_it(self):
        self.check_drop([C, B, A, AB], 1, A, 2, ([C, B], 1, B, [100, 101]))

    def test_entries_ahead_of_it(self):
        self.check_drop([A, AB, B, C], 3, A, 2, ([B, C], 1, C, [102, 103]))

    def test_the_entry_looked_at_stays(self):
        self.check_drop([A, AB, A, B], 1, A, 2, ([AB, B], 0, AB, [101, 103]))
        self.check_drop([B, A, C], 1, A, 0, ([B, A, C], 1, A, [100, 101, 102]))

    def test_others_of_its_place_go(self):
        self.check_drop([A, A, A], 1, A, 2, ([A], 0, A, [101]))

    def test_none(self):
        self.check_drop([A, B], 0, C, 0, ([A, B], 0, A, [100, 101]))
        self.check_drop([A, B], 1, AB, 0, ([A, B], 1, B, [100, 101]))

    def test_the_place_without_words(self):
        self.check_drop([A, B, (), C], 1, (), 3, ([B], 0, B, [101]))

    def test_alike_places_that_come_together_stay(self):
        self.check_drop([B, A, B], 0, A, 1, ([B, B], 0, B, [100, 102]))

    def test_visits_behind_it_fill_up_anew(self):
        book = book_of([A, B, C], 2, 3)
        self.assertEqual(book.drop(A), 1)
        book.visit(D)
        self.check(book, [B, C, D], 2)


class TidyTest(BookTest):
    def check_tidy(self, places, number, wanted):
        book = marked_book(places, number)
        self.assertIsNone(book.tidy())
        self.assertEqual(shown(book), wanted)

    def test_the_first_of_several_looked_at(self):
        self.check_tidy([B, A, A, A, C], 1, ([B, A, C], 1, A, [100, 103, 104]))

    def test_the_middle_of_several_looked_at(self):
        self.check_tidy([B, A, A, A, C], 2, ([B, A, C], 1, A, [100, 103, 104]))

    def test_the_last_of_several_looked_at(self):
        self.check_tidy([B, A, A, A, C], 3, ([B, A, C], 1, A, [100, 103, 104]))

    def test_another_looked_at(self):
        self.check_tidy([B, A, A, A, C], 0, ([B, A, C], 0, B, [100, 103, 104]))
        self.check_tidy([B, A, A, A, C], 4, ([B, A, C], 2, C, [100, 103, 104]))

    def test_several_rows_of_alike_ones(self):
        self.check_tidy([A, A, B, C, C, C], 1, ([A, B, C], 0, A, [101, 102, 105]))
        self.check_tidy([A, A, B, C, C, C], 3, ([A, B, C], 2, C, [101, 102, 105]))

    def test_alike_ones_that_are_not_next_to_one_another(self):
        self.check_tidy([A, B, A], 1, ([A, B, A], 1, B, [100, 101, 102]))

    def test_places_under_one_another_are_not_one(self):
        self.check_tidy([(), A, AB], 2, ([(), A, AB], 2, AB, [100, 101, 102]))

    def test_all_of_one_place(self):
        for number in range(3):
            self.check_tidy([A, A, A], number, ([A], 0, A, [102]))

    def test_one_entry(self):
        self.check_tidy([A], 0, ([A], 0, A, [100]))

    def test_what_was_not_marked_keeps_none(self):
        book = Book(A, 5)
        book.mark(4)
        book.visit(A)
        book.tidy()
        self.assertEqual(shown(book), ([A], 0, A, [0]))


class WholeBookTest(BookTest):
    """All short rows of deeds, against a book that is kept as one plain list of rows."""

    DEEDS = [("visit", A), ("visit", AB), ("replace", B), ("go", -1), ("go", 1), ("mark", 7), ("drop", A), ("tidy",)]

    def done_by_hand(self, rows, most, deed):
        """Rows are lists [place, mark, is looked at]; told are the new ones."""
        at = [row[2] for row in rows].index(True)
        if deed[0] == "visit":
            kept = [[row[0], row[1], False] for row in rows[:at + 1]] + [[deed[1], 0, True]]
            return kept[-most:]
        rows = [list(row) for row in rows]
        if deed[0] == "replace":
            rows[at] = [deed[1], 0, True]
        elif deed[0] == "mark":
            rows[at][1] = deed[1]
        elif deed[0] == "go" and 0 <= at + deed[1] < len(rows):
            rows[at][2] = False
            rows[at + deed[1]][2] = True
        elif deed[0] == "drop":
            rows = [row for row in rows if row[2] or row[0][:len(deed[1])] != deed[1]]
        elif deed[0] == "tidy":
            runs = [list(run) for place, run in itertools.groupby(rows, key=lambda row: row[0])]
            rows = [[run[-1][0], run[-1][1], any(row[2] for row in run)] for run in runs]
        return rows

    def test_all_short_rows_of_deeds(self):
        for most in (1, 2, 3):
            for deeds in itertools.product(self.DEEDS, repeat=5):
                book = Book(A, most)
                rows = [[A, 0, True]]
                for deed in deeds:
                    try:
                        getattr(book, deed[0])(*deed[1:])
                    except NoPlace:
                        pass
                    rows = self.done_by_hand(rows, most, deed)
                at = [row[2] for row in rows].index(True)
                wanted = ([row[0] for row in rows], at, rows[at][0], [row[1] for row in rows])
                self.assertEqual(shown(book), wanted, (most, deeds))


if __name__ == "__main__":
    unittest.main()
