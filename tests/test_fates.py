import unittest

from felltimber.booktexts import read_book
from felltimber.errors import NoKind
from felltimber.fates import endless_kinds, leads, way_round
from felltimber.places import tree_at
from tests.makers import books, kinds_of

NO_KINDS = ["", " ", "z", "A", "a ", "a\n", "aa", "abcdefghi", "a; b", "*", "0"]


def led(book, name):
    """The kinds to which a kind leads, by the document's words."""
    return sorted({kind for once, each in book.rules(name) for kind in kinds_of(once) + kinds_of(each)})


def come_to(book, name):
    """The kinds to which one comes from a kind, by one lead or more."""
    found = led(book, name)
    for turn in range(8):
        found = sorted({kind for near in found for kind in led(book, near)} | set(found))
    return found


def is_endless(book, name):
    return any(kind in come_to(book, kind) for kind in [name] + come_to(book, name))


def some_books():
    return books(21, 150) + books(22, 300, ending=False)


class Leads(unittest.TestCase):

    def told(self, text, name, wanted):
        self.assertEqual(leads(read_book(text), name), wanted)

    def test_in_once_and_in_each(self):
        self.told("a; b; c > a / -", "c", ["a"])
        self.told("a; b; c > - / b", "c", ["b"])
        self.told("a; b; c > b / a", "c", ["a", "b"])
        self.told("a; b; c > - / b > a / -", "c", ["a", "b"])

    def test_at_the_top_and_within_trees(self):
        self.told("a; b; c; d > a{b{c}} / -", "d", ["a", "b", "c"])
        self.told("a; b; c; d > - / 2 a{3 c}", "d", ["a", "c"])
        self.told("a; b; c; d > a / b{c}", "d", ["a", "b", "c"])

    def test_the_kind_itself(self):
        self.told("a > a / -", "a", ["a"])
        self.told("a; b > - / a{b}", "b", ["a", "b"])

    def test_no_rules_and_rules_without_trees(self):
        self.told("a; b > a / -", "a", [])
        self.told("a > - / - > - / -", "a", [])

    def test_sorted_each_once(self):
        self.told("c; b; a > 2 c, c{b} / b > c / c{c}; ab", "a", ["b", "c"])
        self.told("c; ab; b; a > ab, b, c / a", "a", ["a", "ab", "b", "c"])

    def test_many_books(self):
        for book in some_books():
            for name in book.names():
                self.assertEqual(leads(book, name), led(book, name))

    def test_told_again_behind_a_change(self):
        book = read_book("a; b; c > b / a")
        told = leads(book, "c")
        told.append("c")
        told.reverse()
        self.assertEqual(leads(book, "c"), ["a", "b"])
        leads(book, "a").append("a")
        self.assertEqual(leads(book, "a"), [])

    def test_no_kind(self):
        book = read_book("a > b / -; b; c > c / -")
        for name in NO_KINDS:
            for deed in (leads, way_round):
                with self.assertRaises(NoKind) as caught:
                    deed(book, name)
                self.assertEqual(caught.exception.kind, name)


class Rounds(unittest.TestCase):

    def walked(self, book, begin, steps):
        """Walks the steps through the rules; tells the kind to which they lead."""
        self.assertIsInstance(steps, list)
        kind = begin
        for step in steps:
            self.assertIsInstance(step, tuple)
            self.assertEqual(len(step), 4)
            name, rule, word, place = step
            self.assertEqual(name, kind)
            self.assertIs(type(rule), int)
            self.assertIn(rule, range(1, len(book.rules(name)) + 1))
            self.assertIn(word, ["once", "each"])
            grove = book.rules(name)[rule - 1][["once", "each"].index(word)]
            self.assertIsInstance(place, tuple)
            kind = tree_at(grove, place)[0]
        return kind

    def is_way_round(self, book, name, told):
        self.assertIsInstance(told, tuple)
        way, around = told
        self.assertIsNot(way, around)
        begin = self.walked(book, name, way)
        self.assertGreaterEqual(len(around), 1)
        self.assertEqual(self.walked(book, begin, around), begin)

    def checked(self, book):
        for name in book.names():
            told = way_round(book, name)
            if is_endless(book, name):
                self.is_way_round(book, name, told)
            else:
                self.assertIsNone(told)
        self.assertEqual(endless_kinds(book), sorted(name for name in book.names() if is_endless(book, name)))

    def test_of_itself_at_once(self):
        self.assertEqual(way_round(read_book("a > a / -"), "a"), ([], [("a", 1, "once", (0,))]))
        self.assertEqual(way_round(read_book("a > - / a"), "a"), ([], [("a", 1, "each", (0,))]))
        self.assertEqual(way_round(read_book("b; a > b / - > b / b, b{a}"), "a"), ([], [("a", 2, "each", (1, 0))]))

    def test_over_several_kinds(self):
        book = read_book("a > b / -; b > - / c; c > d{a} / -; d")
        self.assertEqual(endless_kinds(book), ["a", "b", "c"])
        self.checked(book)
        self.assertEqual(len(way_round(book, "b")[0] + way_round(book, "b")[1]), 3)

    def test_that_only_lead_to_a_round(self):
        book = read_book("d > c / -; c > - / b{b}; b > b / -; a; e > a / -; f > d, e / -")
        self.assertEqual(endless_kinds(book), ["b", "c", "d", "f"])
        self.assertEqual(way_round(book, "a"), None)
        self.assertEqual(way_round(book, "e"), None)
        self.assertEqual(way_round(book, "c")[1], [("b", 1, "once", (0,))])
        self.checked(book)

    def test_no_round(self):
        for text in ["a", "a; b > a / a; c > a, b / - > b{a} / -", "a > - / -", "c > b / a; b > a / -; a"]:
            book = read_book(text)
            self.assertEqual(endless_kinds(book), [])
            for name in book.names():
                self.assertIsNone(way_round(book, name))

    def test_many_books(self):
        endless = 0
        for book in some_books():
            self.checked(book)
            endless += endless_kinds(book) != []
        self.assertGreater(endless, 100)

    def test_long_rounds(self):
        self.checked(read_book("a > b / -; b > c / -; c > d / -; d > e / -; e > f / -; f > g / -; g > h / -; h > a / -"))
        self.checked(read_book("a > b / -; b > c / -; c > d / -; d > e / -; e > f / -; f > g / -; g > h / -; h > h / -"))
        self.checked(read_book("a > b / -; b > c / -; c > d / -; d > e / -; e > f / -; f > g / -; g > h / -; h"))

    def test_told_again_behind_a_change(self):
        book = read_book("d > c / -; c > - / b{b}; b > b / -; a")
        for name in ["b", "c", "d"]:
            way, around = way_round(book, name)
            kept = (list(way), list(around))
            way.append(around[0])
            around.clear()
            self.assertEqual(way_round(book, name), kept)
        endless_kinds(book).clear()
        endless_kinds(book).reverse()
        self.assertEqual(endless_kinds(book), ["b", "c", "d"])
        self.assertEqual(book.rules("d"), [(((("c", ()), 1),), ())])
