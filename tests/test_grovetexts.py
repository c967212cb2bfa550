import unittest

from felltimber.errors import NoGrove
from felltimber.grovetexts import read_grove, show_grove
from felltimber.trees import deep_of, is_grove, parts_of
from tests.makers import SIXTY, SIXTY_NINES, groves, names_of, spoiled, stem

A = ("a", ())
B = ("b", ())


def stem_text(deepest):
    return "a{" * (deepest - 1) + "a" + "}" * (deepest - 1)


class Show(unittest.TestCase):

    def test_texts(self):
        for grove, text in [
            ((), "-"), (((A, 1),), "a"), (((A, 2),), "2 a"), (((A, 1), (B, 10)), "a, 10 b"),
            (((("a", ((B, 1),)), 1),), "a{b}"), (((A, 3), (("a", ((A, 2), (B, 1))), 4)), "3 a, 4 a{2 a, b}"),
            (((A, 2), (("b", ((("c", ()), 3), (("d", ((A, 1),)), 1))), 1)), "2 a, b{3 c, d{a}}"),
            (((("abcdefgh", ()), SIXTY_NINES),), "9" * 60 + " abcdefgh"), (stem(12), stem_text(12)),
        ]:
            self.assertEqual(show_grove(grove), text)
            self.assertEqual(read_grove(text), grove)

    def test_there_and_back(self):
        read = 0
        for grove in groves(1, 400):
            if parts_of(grove) <= 60:
                read += 1
                self.assertEqual(read_grove(show_grove(grove)), grove)
        self.assertGreater(read, 300)

    def test_what_is_told_is_shown_beyond_the_bounds_of_reading(self):
        self.assertEqual(show_grove(((A, 10 ** 3999),)), "1" + "0" * 3999 + " a")
        self.assertEqual(show_grove(stem(60)), stem_text(60))


class Read(unittest.TestCase):

    def refused(self, text):
        with self.assertRaises(NoGrove, msg=text):
            read_grove(text)

    def test_texts_that_no_grove_shows(self):
        for text in [
            "", "1 a", "0 a", "01 a", "00 a", "02 a", "-1 a", "+2 a", "2_0 a", "2a", "2  a", "2", "2 ", "2 -", "2 2 a", "a 2",
            " a", "a ", "a  ", "a,b", "a ,b", "a , b", "a,  b", "a b", "a, ", "a,", ", a", ",a", ",", ", ", "a, , b", "a,, b",
            "a{}", "a{-}", "a{ }", "a{ b}", "a{b }", "a {b}", "a{b} ", "a{b},", "{}", "{a}", "2 {a}", "a{1 b}", "a{0 b}",
            "a{02 b}", "a{b,c}", "a{b, }", "a{, b}", "a{b}c", "a{b}{c}", "a{b}2", "-, a", "a, -", "--", "- ", " -", "-a",
            "A", "a1", "a_b", "abcdefghi", "a{abcdefghi}", "a.b", "a;", "a[b]", "a(b)", "a/b", "0", "None",
        ]:
            self.refused(text)

    def test_tabs_line_feeds_and_blanks_at_any_place(self):
        text = "2 a, b{3 c, d{a}}"
        self.assertTrue(is_grove(read_grove(text)))
        for at in range(len(text) + 1):
            for sign in "\t\n ":
                self.refused(text[:at] + sign + text[at:])
            for sign in "\t\n":
                self.refused(text[:at] + sign + text[at + 1:])
        self.refused("\t")
        self.refused("\n")
        self.refused("-\n")

    def test_trees_in_the_wrong_order_or_twice(self):
        for text in [
            "b, a", "a, a", "a, 2 a", "2 a, a", "a{b}, a", "a{b}, a{b}", "ab, a", "a{2 b}, a{b}", "c{b, a}", "c{a, a}",
            "c{d{b, a}}", "a, c, b",
        ]:
            self.refused(text)
        for text in ["a, a{b}", "a, ab", "a{b}, a{2 b}", "a{b}, ab", "c{a, b}"]:
            self.assertTrue(is_grove(read_grove(text)))

    def test_braces_that_do_not_close(self):
        for text in ["a{", "a{b", "a{b{c}", "a{b}}", "a}", "}", "{", "a{b}, c}", "a{b{c"]:
            self.refused(text)
        for many in (12, 100, 1000, 2000):
            self.refused("a{" * many)
            self.refused(("a{" * many + "a" + "}" * many)[:4000])
            self.refused("{" * many)
            self.refused("}" * many)

    def test_sixty_figures(self):
        for shape in ["{} a", "b, {} c", "b<{} a>", "2 b<c<{} a>>"]:
            shape = shape.replace("<", "{{").replace(">", "}}")
            self.assertTrue(is_grove(read_grove(shape.format(SIXTY))))
            self.assertTrue(is_grove(read_grove(shape.format(SIXTY_NINES))))
            self.refused(shape.format(10 ** 60))
            self.refused(shape.format("0" * 60 + "2"))
            self.refused(shape.format("9" * 3900))
        self.refused("9" * 5000 + " a")

    def test_sixty_parts(self):
        names = names_of(61)
        self.assertEqual(parts_of(read_grove(", ".join(names[:60]))), 60)
        self.refused(", ".join(names))
        self.assertEqual(parts_of(read_grove("a{" + ", ".join(names[:59]) + "}")), 60)
        self.refused("a{" + ", ".join(names[:60]) + "}")
        self.refused(", ".join(names_of(676)))

    def test_twelve_deep(self):
        self.assertEqual(deep_of(read_grove(stem_text(12))), 12)
        self.refused(stem_text(13))
        self.refused(stem_text(14))
        self.refused("a, " + stem_text(13))

    def test_only_what_is_shown_is_read(self):
        for text in ["-", "a", "2 a", "10 ab", "a, b", "a{b}", "2 a, b{3 c, d{a}}", "10 a, 2 b{a, b{c}, c}, c"]:
            for near in spoiled(text):
                try:
                    grove = read_grove(near)
                except NoGrove:
                    continue
                self.assertTrue(is_grove(grove), near)
                self.assertEqual(show_grove(grove), near)
