import random
import unittest

from felltimber.booktexts import read_book
from felltimber.errors import NoKind, NotEndless, TooGreat
from felltimber.falls import fallen
from felltimber.fates import endless_kinds
from felltimber.grovetexts import read_grove
from felltimber.rounds import endless_row
from felltimber.trees import is_grove
from tests.makers import books, grove_on, kinds_of

TEXTS = [
    # At once, by once and by each, at the top and deep within trees.
    "a > a / -", "a * > a / -", "a > - / a", "a * > - / a", "a > a{a} / -", "a * > a{a} / -", "a * > - / a{a{a{a}}}", "a > - / 2 a{2 a, 2 a{a}}",
    "a > b{b{b{a}}} / -; b", "a > - / b{b{b{a}}}; b *", "a * > - / 9 b{9 b{9 b{a}}}; b *", "a > 2 b{a{2 b}, 3 b} / -; b *",
    "a > - / 1000000000 a{1000000000 b, 1000000000 b{1000000000 b}}; b *", "a > - / - > 2 b / - > b / a{b}; b", "a > b{b, c{a}} / -; b; c *",
    # Over several kinds.
    "a > b / -; b > a / -", "a * > - / b; b > c{a} / -; c", "a > 3 c{b} / -; b > - / d{c{2 a}}; c *; d", "a > b{c} / -; b > - / c; c * > a{b} / -",
    "a > b / -; b > c / -; c > d / -; d > e / -; e > f / -; f > g / -; g > h / -; h > - / a", "a * > - / 2 b{2 b{2 b{a}}}; b * > - / 2 c{c{c{a}}}; c *",
    # That only lead to a round.
    "a > b / -; b > b / -", "a > - / b{c}; b; c > - / 3 c", "a > d / - > b / -; b > d, 2 d{c} / -; c * > d{c} / d; d", "a > - / d{d{d{b}}}; b > c / -; c > b / -; d *",
]


class Rows(unittest.TestCase):

    def is_row(self, book, name, long, row):
        endless = endless_kinds(book)
        self.assertIsInstance(row, list)
        self.assertEqual(len(row), long)
        grove = (((name, ()), 1),)
        for told in row:
            self.assertIsInstance(told, tuple)
            self.assertEqual(told[0], grove)
            grove = fallen(book, *told)[0]
            self.assertTrue(is_grove(grove))
            self.assertTrue(any(kind in endless for kind in kinds_of(grove)), (name, told))

    def told(self, book, name):
        """The row of each length is a right one, and never too great here: it need not be longer than this."""
        for long in range(1, 13):
            self.is_row(book, name, long, endless_row(book, name, long))

    def test_some(self):
        for text in TEXTS:
            book = read_book(text)
            self.assertIn("a", endless_kinds(book))
            for name in endless_kinds(book):
                self.told(book, name)

    def test_many_books(self):
        asked = 0
        for book in books(141, 80, ending=False) + books(142, 40, ending=False, manys=(1, 2, 10 ** 8)):
            for name in endless_kinds(book):
                for long in (1, 2, 3, 4):
                    self.is_row(book, name, long, endless_row(book, name, long))
                try:
                    self.is_row(book, name, 12, endless_row(book, name, 12))
                except TooGreat:
                    pass
                asked += 1
        self.assertGreater(asked, 200)

    def test_one_rule_alone(self):
        chance = random.Random(143)
        for turn in range(150):
            names = ["a", "b", "c"]
            once, each = [(4, 0), (0, 4), (2, 2)][turn % 3]
            rule = (grove_on(chance, names, once), grove_on(chance, names, each))
            if "a" in kinds_of(rule[0]) + kinds_of(rule[1]):
                marks = [chance.choice(["", " *"]) for name in names]
                book = read_book(f"a{marks[0]} > - / -; b{marks[1]}; c{marks[2]}")
                kinds = [(name, book.spreads(name), [rule] if name == "a" else []) for name in names]
                self.told(type(book)(kinds), "a")

    def test_a_row_told_again_behind_a_change(self):
        book = read_book("a > - / b{a}; b *")
        told = endless_row(book, "a", 5)
        kept = list(told)
        told.reverse()
        told.pop()
        told.append(None)
        self.assertEqual(endless_row(book, "a", 5), kept)
        self.is_row(book, "a", 5, endless_row(book, "a", 5))

    def test_the_first_fall(self):
        self.assertEqual(endless_row(read_book("a > - / - > a / -"), "a", 1), [(read_grove("a"), (0,), 2, 0)])
        place, rule, number = endless_row(read_book("a > - / - > - / a"), "a", 1)[0][1:]
        self.assertEqual((place, rule), ((0,), 2))
        self.assertGreater(number, 0)

    def test_not_endless(self):
        book = read_book("a > a / -; b > c / c{c}; c; d > a / -")
        for name in ("b", "c"):
            for long in (1, 4, 12):
                with self.assertRaises(NotEndless):
                    endless_row(book, name, long)
        for book in books(144, 40, ending=False):
            for name in book.names():
                if name not in endless_kinds(book):
                    with self.assertRaises(NotEndless):
                        endless_row(book, name, 3)

    def test_no_kind(self):
        for text in ["a > a / -; b", "a"]:
            book = read_book(text)
            for name in ["", " ", "c", "A", "aa", "abcdefghi", "a ", "x" * 4000]:
                for long in (1, 12):
                    with self.assertRaises(NoKind) as caught:
                        endless_row(book, name, long)
                    self.assertEqual(caught.exception.kind, name)
