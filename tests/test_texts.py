import itertools
import unittest

from cardplaces.books import Book
from cardplaces.errors import NoText
from cardplaces.places import is_place, place_text
from cardplaces.texts import read, read_place, written

A, B, AB = ("a",), ("b",), ("a", "b")
LONG = ("card", "of", "the", "far", "off", "sea")
NO_LETTERS = [" ", "A", "Z", "0", "9", ">", ".", "-", "_", "~", "`", "{", "*", "\n"]
# No text of these is that of a place.
NO_PLACES = ["", " ", "\n", "a", "a/b", "abcd", ".", "..", ">", "*", "//", "///", "/a/", "/a/b/", "//a", "/a//b",
             "/a//", " /", "/ ", "/a ", " /a", "/ a", "/a /b", "/a/ b", "\n/a", "/a\n", "/\n", "\n/", "/a\n/b", "/a/\n",
             "/abcde", "/a/abcde", "/abcde/a", "/abcdefgh", "/a/b/c/d/e/f/g", "/a/b/c/d/e/f/", "/a/b/c/d/e/f/g/h",
             "/./a", "/a/..", "/.", "a/", "abcd/", ">/", ">/a", "/>", "/>a", "/a>", "/a/>", "\\a", "/a\\b"]


class ReadPlaceTest(unittest.TestCase):
    def test_texts_of_none_to_six_words(self):
        for text, place in [("/", ()), ("/a", A), ("/a/b", AB), ("/abcd/z", ("abcd", "z")), ("/a/a/a", ("a",) * 3),
                            ("/a/bc/def/ghij", ("a", "bc", "def", "ghij")), ("/a/b/c/d/e", tuple("abcde")),
                            ("/card/of/the/far/off/sea", LONG)]:
            self.assertEqual(read_place(text), place)
            self.assertIsInstance(read_place(text), tuple)

    def test_other_texts(self):
        for text in NO_PLACES:
            with self.subTest(text=text):
                self.assertRaises(NoText, read_place, text)

    def test_signs_that_are_no_letters(self):
        for sign in NO_LETTERS:
            for text in ["/" + sign, "/a" + sign, "/" + sign + "a", "/a/b" + sign, "/a" + sign + "/b",
                         "/a/" + sign + "b", sign + "/a", sign + "/", "/a/" + sign, "/ab" + sign + "c/d", sign,
                         sign + "a"]:
                with self.subTest(text=text):
                    self.assertRaises(NoText, read_place, text)

    def test_how_many_letters_and_words(self):
        for many in range(1, 8):
            text = "/" + "m" * many
            if many <= 4:
                self.assertEqual(read_place(text), ("m" * many,))
            else:
                self.assertRaises(NoText, read_place, text)
            text = "/ab" * many
            if many <= 6:
                self.assertEqual(read_place(text), ("ab",) * many)
            else:
                self.assertRaises(NoText, read_place, text)

    def test_all_short_texts(self):
        for length in range(6):
            for signs in itertools.product("a/z >\n", repeat=length):
                text = "".join(signs)
                place = tuple(word for word in text.split("/") if word)
                if is_place(place) and place_text(place) == text:
                    self.assertEqual(read_place(text), place)
                else:
                    self.assertRaises(NoText, read_place, text)

    def test_what_is_written_is_read_back(self):
        for length in range(7):
            for place in itertools.product(("a", "abcd", "zz"), repeat=length):
                self.assertEqual(read_place(place_text(place)), place)


class WrittenTest(unittest.TestCase):
    CASES = [([()], 0, ">/\n"), ([A], 0, ">/a\n"), ([LONG], 0, ">/card/of/the/far/off/sea\n"),
             ([A, AB, B], 0, ">/a\n/a/b\n/b\n"), ([A, AB, B], 1, "/a\n>/a/b\n/b\n"), ([A, AB, B], 2, "/a\n/a/b\n>/b\n"),
             ([(), A, ()], 0, ">/\n/a\n/\n"), ([(), A, ()], 1, "/\n>/a\n/\n"), ([(), A, ()], 2, "/\n/a\n>/\n"),
             ([A, A], 0, ">/a\n/a\n"), ([A, A], 1, "/a\n>/a\n"), ([(), ()], 1, "/\n>/\n")]

    def test_written(self):
        for entries, number, text in self.CASES:
            self.assertEqual(written(entries, number), text)

    def test_read(self):
        for entries, number, text in self.CASES:
            told = read(text)
            self.assertEqual(told, (entries, number))
            self.assertIsInstance(told, tuple)
            self.assertIsInstance(told[0], list)

    def test_many_entries(self):
        entries = [("a",) * (spot % 7) for spot in range(50)]
        for number in range(50):
            self.assertEqual(read(written(entries, number)), (entries, number))

    def test_all_short_lists(self):
        for length in range(1, 5):
            for entries in itertools.product([(), A, AB, LONG], repeat=length):
                for number in range(length):
                    self.assertEqual(read(written(list(entries), number)), (list(entries), number))

    def test_what_is_handed_in_is_not_changed(self):
        entries = [A, AB, ()]
        written(entries, 1)
        self.assertEqual(entries, [A, AB, ()])

    def test_told_lists_are_new_ones(self):
        text = "/a\n>/b\n"
        told = read(text)[0]
        told.append(AB)
        told[0] = ()
        self.assertEqual(read(text), ([A, B], 1))


class ReadOtherTextsTest(unittest.TestCase):
    def check(self, *texts):
        for text in texts:
            with self.subTest(text=text):
                self.assertRaises(NoText, read, text)

    def test_the_empty_text(self):
        self.check("")

    def test_without_the_sign(self):
        self.check("/\n", "/a\n", "/a\n/b\n", "/\n/\n/\n")

    def test_with_two_or_more_of_it(self):
        self.check(">/a\n>/b\n", ">/a\n/b\n>/\n", "/a\n>/b\n>/b\n", ">/\n>/\n", ">/a\n>/a\n>/a\n")
        self.check(">>/a\n", "/b\n>>/a\n")

    def test_elsewhere_than_ahead(self):
        self.check("/>a\n", "/a>\n", "/>\n", "/a>/b\n", "/a/>b\n", " >/a\n", "/a\n/b>\n", "/a\n/>b\n", ">/a>\n",
                   ">/a\n/b>\n", "/a>\n>/b\n", "a>\n", "> /a\n")

    def test_without_the_last_line_feed(self):
        self.check(">/", ">/a", "/a\n>/b", ">/a\n/b", ">/a\n/b\n/", ">")

    def test_with_empty_lines(self):
        self.check("\n", "\n\n", "\n>/a\n", ">/a\n\n", "/a\n\n>/b\n", ">/a\n\n/b\n", "\n/a\n>/b\n", "/a\n>/b\n\n",
                   ">/\n\n", "\n>/\n", ">/a\n\n\n/b\n")

    def test_with_the_sign_alone(self):
        self.check(">\n", "/a\n>\n", ">\n/a\n", ">\n>/a\n")

    def test_with_a_line_that_is_no_places_text(self):
        for text in NO_PLACES:
            # Of a line each: two places with a line feed between are two good lines.
            if text != "/a\n/b":
                self.check(">" + text + "\n", text + "\n>/a\n", ">/a\n" + text + "\n", ">/a\n" + text + "\n/b\n",
                           "/a\n>" + text + "\n/b\n")

    def test_with_signs_that_are_no_letters(self):
        for sign in NO_LETTERS:
            self.check(sign + ">/a\n", ">" + sign + "/a\n", ">/a" + sign + "\n", ">/a\n" + sign + "/b\n",
                       ">/a\n/b" + sign + "\n", ">/a\n/b\n" + sign)

    def test_all_short_texts(self):
        lines = ["/", "/a", ">/", ">/a", "", ">", "a", "/a/"]
        for length in range(4):
            for chosen in itertools.product(lines, repeat=length):
                text = "".join(line + "\n" for line in chosen)
                looked = [line for line in chosen if line.startswith(">")]
                if len(looked) == 1 and set(chosen) <= set(lines[:4]):
                    places = [() if line.endswith("/") else A for line in chosen]
                    self.assertEqual(read(text), (places, chosen.index(looked[0])))
                    self.check(text[:-1])
                else:
                    self.check(text)


class BooksAsTextsTest(unittest.TestCase):
    def test_the_entries_and_number_of_a_book(self):
        book = Book((), 4)
        for place in [A, AB, (), LONG, A, A]:
            book.visit(place)
            for by in (-1, -1, 1, 1, 0):
                if book.can_go(by):
                    book.go(by)
                text = written(book.entries(), book.number())
                self.assertEqual(read(text), (book.entries(), book.number()))
                self.assertEqual(text.count("\n"), len(book.entries()))

    def test_a_written_book(self):
        book = Book((), 9)
        book.visit(A)
        book.visit(AB)
        book.go(-1)
        self.assertEqual(written(book.entries(), book.number()), "/\n>/a\n/a/b\n")


if __name__ == "__main__":
    unittest.main()
