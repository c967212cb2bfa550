import unittest

from felltimber.books import Book
from felltimber.booktexts import read_book, show_book
from felltimber.errors import NoBook
from tests.makers import books, spoiled

A = ("a", ())
B = ("b", ())
GREAT = 10 ** 9
SHOWN = [
    "a", "a *", "abcdefgh", "a > - / -", "a * > - / -", "a; b", "b *; a", "a; b * > 2 a / -; c > - / a, b{a}",
    "a > a / -", "a > - / a > a / - > a / a > 2 a / a{a}", "a > 1000000000 a / -", "a > a{a{a{a}}} / -",
    "a > a, b / 2 a, 3 b; b", "a * > b / -; b * > c / -; c * > d{d, 2 d{d}} / -; d *", "a; b; c; d; e; f; g; h",
    "a > 999999999 a{1000000000 a} / a{a}",
]


def told(book):
    """All that a book tells."""
    return [(name, book.spreads(name), book.rules(name)) for name in book.names()]


class Texts(unittest.TestCase):

    def test_show(self):
        for kinds, text in [
            ([("a", False, [])], "a"),
            ([("a", True, [])], "a *"),
            ([("b", True, []), ("a", False, [])], "b *; a"),
            ([("a", False, [((), ())])], "a > - / -"),
            ([("a", True, [(((A, 2),), ()), ((), ((A, GREAT),))])], "a * > 2 a / - > - / 1000000000 a"),
            (
                [("a", False, []), ("b", True, [(((A, 2),), ())]), ("c", False, [((), ((A, 1), (("b", ((A, 1),)), 1)))])],
                "a; b * > 2 a / -; c > - / a, b{a}",
            ),
        ]:
            self.assertEqual(show_book(Book(kinds)), text)
            self.assertEqual(told(read_book(text)), kinds)

    def test_there_and_back(self):
        for book in books(31, 300, ending=False, manys=(1, 2, 10, GREAT // 4)):
            again = read_book(show_book(book))
            self.assertIsInstance(again, Book)
            self.assertEqual(told(again), told(book))
            self.assertEqual(show_book(again), show_book(book))

    def test_texts_there_and_back(self):
        for text in SHOWN:
            self.assertEqual(show_book(read_book(text)), text)

    def test_the_greatest_book(self):
        rules = " > 999999999 aaaaaaaa, 999999999 bbbbbbbb / 999999999 aaaaaaaa, 999999999 bbbbbbbb" * 4
        names = ["aaaaaaaa", "bbbbbbbb", "cccccccc", "dddddddd", "eeeeeeee", "ffffffff", "gggggggg", "hhhhhhhh"]
        text = "; ".join(name + " *" + rules for name in names)
        self.assertLess(len(text), 4000)
        self.assertEqual(show_book(read_book(text)), text)

    def test_two_books_of_one_text_are_two(self):
        one, other = read_book("a > a / -"), read_book("a > a / -")
        one.rules("a").clear()
        one.names().clear()
        self.assertEqual(told(one), told(other))


class Refused(unittest.TestCase):

    def refused(self, text):
        with self.assertRaises(NoBook, msg=text):
            read_book(text)

    def test_blanks_tabs_and_line_feeds(self):
        for text in SHOWN:
            for at in range(len(text) + 1):
                for sign in " \t\n":
                    self.refused(text[:at] + sign + text[at:])
                if text[at:at + 1] == " ":
                    for sign in ["", "\t", "\n"]:
                        self.refused(text[:at] + sign + text[at + 1:])
        for text in ["", " ", "\t", "\n", "  ", "; ", " ; ", "a\n; b", "a;\nb", "a;\tb"]:
            self.refused(text)

    def test_signs_at_an_end_or_doubled(self):
        for text in [
            ";", "a;", "a; ", ";a", "; a", "a;; b", "a; ; b", "a;b", "a ; b", "a, b", "a: b", "a;  b", "a*", "a **", "a * *",
            "* a", "*", " *", "a *b", "a * ; ", "a >", "a > ", ">", "> - / -", " > - / -", "a > > - / -", "a >> - / -",
            "a > - / - >", "a > - / - > ", "a * >", "a > * - / -", "a > - / - *", "a> - / -", "a >- / -", "a > -/ -", "a > - /-",
            "a > - // -", "a > - / / -", "a; *", "a; b; ", "a; b;", "-", "a > - / -;", "a > - / -; ", "a; > - / -", "a * > - / - *",
        ]:
            self.refused(text)

    def test_names_that_are_none_or_twice(self):
        for text in [
            "A", "a1", "1", "a_b", "a-b", "abcdefghi", "abcdefghi *", "a.b", "a b", "a{}", "a{b}", "2 a", "a; B", "a; abcdefghi",
            "a; a", "a; a *", "a *; a", "a; b; a", "a > - / -; b; a", "a; b; c; d; e; f; g; g",
        ]:
            self.refused(text)

    def test_rules_without_halves_or_with_three(self):
        for text in [
            "a > -", "a > a", "a > - - ", "a > - /", "a > / -", "a > /", "a >  / ", "a >  / -", "a > - / ", "a > - / - / -",
            "a > a / a / a", "a > - / - /", "a / -", "a > a / a > a", "a > a > a / a", "a > a, a",
        ]:
            self.refused(text)

    def test_groves_that_are_not_written_so(self):
        for grove in [
            "", "0", "1 a", "0 a", "01 a", "02 a", "2", "2a", "2  a", "a 2", "b, a", "a, a", "a, 2 a", "2 a, a", "a{}", "a{-}",
            "a{1 b}", "a{b, a}", "a{b, b}", "a{b}, a", "a,b", "a , b", "a, ", ", a", "-a", "--", "- ", " -", "a, -", "-, a",
            "a{", "a}", "a{b", "a{b}}", "{a}", "a{ b}", "a{b }", "-1 a", "+2 a", "1_0 a", "A", "a b", "(a)", "a;", "a*", "a *",
        ]:
            self.refused(f"a > {grove} / -; b")
            self.refused(f"a > - / {grove}; b")
            self.refused(f"b; a > - / - > - / {grove}")

    def test_kinds_that_the_book_has_not(self):
        for text in ["a > b / -", "a > - / b", "a > a{b} / -", "a; c > a / a{c, d}", "a; b > a / - > c / -", "a > ab / -"]:
            self.refused(text)

    def test_five_parts_five_rules_nine_kinds(self):
        four = ["a, b, c, d", "a{b, c, d}", "a{b{c{d}}}", "a, a{b}, b"]
        five = ["a, b, c, d, e", "a{b, c, d, e}", "a{b{c{d{e}}}}", "a, a{b}, b, c"]
        rest = "; a; b; c; d; e"
        for good in four:
            self.assertEqual(show_book(read_book(f"f > {good} / -" + rest)), f"f > {good} / -" + rest)
            read_book(f"f > - / {good}" + rest)
            self.refused(f"f > {good} / a" + rest)
            self.refused(f"f > a / {good}" + rest)
        for bad in five:
            self.refused(f"f > {bad} / -" + rest)
            self.refused(f"f > - / {bad}" + rest)
        self.refused("f > a, b, c / a, b" + rest)
        read_book("a" + " > - / -" * 4)
        self.refused("a" + " > - / -" * 5)
        self.refused("b; a" + " > b / b" * 5)
        read_book("; ".join("abcdefgh"))
        self.refused("; ".join("abcdefghi"))

    def test_a_many_above_the_bound(self):
        read_book("a > 1000000000 a / -")
        for many in [GREAT + 1, 10 ** 10, 10 ** 59, 10 ** 60, 10 ** 3900]:
            self.refused(f"a > {many} a / -")
            self.refused(f"a > - / {many} a")
            self.refused(f"a > - / a{{{many} a}}")
            self.refused(f"a > - / {many} a{{a}}")

    def test_long_texts(self):
        for text in ["a{" * 2000, "a; " * 1300, "a > " * 1000, "a > - / " * 500, "a" * 4000, "; " * 2000, " > " * 1333, " / " * 1333]:
            self.refused(text)

    def test_only_what_is_shown_is_read(self):
        read = 0
        for text in SHOWN:
            for near in spoiled(text):
                try:
                    book = read_book(near)
                except NoBook:
                    continue
                read += 1
                self.assertEqual(show_book(book), near)
        self.assertGreater(read, 100)
