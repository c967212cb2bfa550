import copy
import itertools
import unittest

from felltimber.booktexts import read_book
from felltimber.errors import Endless, NoKind, NoPlace, TooLong
from felltimber.falls import fallen
from felltimber.grovetexts import read_grove, show_grove
from felltimber.mosts import long_fall, most_falls
from felltimber.trees import together
from tests.makers import SIXTY, SIXTY_NINES, all_falls, books_and_groves, stem

TOO_LONG = 10 ** 300
SMALL = [
    "a; b > a / -", "a; b > - / a", "a *; b > a / a", "a; b * > 2 a / - > - / a", "a *; b * > - / a > a{a} / -", "a; b > a{a} / a > 3 a / -; c * > b / -",
    "a *; b > a / -; c * > - / b > a{b} / -", "c; a * > - / 2 c{c}; b > a / c",
]
GROVES = [
    "-", "a", "b", "2 a", "a, b", "2 b", "a{a}", "a{b}", "b{a}", "b{b}", "a{2 a}", "2 a{a}", "b{a, b}", "a{a{a}}", "b{a{a}}", "a{b{a}}", "a, b{a}", "b{2 a}",
]


class Trials:
    """The longest row of falls of groves, by trying them all."""

    def __init__(self, book, bound, most):
        self.book, self.bound, self.left, self.known = book, bound, most, {}

    def longest(self, grove):
        """None where there are too many groves to try."""
        text = show_grove(grove)
        if text not in self.known:
            self.left -= 1
            if self.left < 0:
                return None
            found = 0
            for (place, rule), number in itertools.product(all_falls(self.book, grove), range(self.bound + 1)):
                behind = self.longest(fallen(self.book, grove, place, rule, number)[0])
                if behind is None:
                    return None
                found = max(found, 1 + behind)
            self.known[text] = found
        return self.known[text]


def is_small(book, grove, bound, most):
    """Whether there are so few falls that all rows of them can be tried."""
    try:
        return most_falls(book, grove, bound) <= most
    except TooLong:
        return False


class Most(unittest.TestCase):

    def test_some(self):
        book = read_book("a; b > - / a; c *; d * > b / 2 a")
        for grove, bound, wanted in [
            ("-", 5, 0), ("a", 0, 1), ("a", 9, 1), ("7 a", 3, 7), ("b", 0, 1), ("b", 1, 2), ("b", 5, 6), ("a{a}", 4, 2), ("a{3 a}", 4, 4),
            ("b{b}", 5, 12), ("c", 9, 1), ("c{a}", 0, 2), ("c{a}", 1, 3), ("c{a}", 2, 4), ("c{2 a}", 1, 7), ("c{2 a}", 2, 13), ("c{b}", 1, 7),
            ("c{c{a}}", 1, 15), ("c{c{a}}", 0, 3), ("d", 0, 2), ("d", 1, 5), ("d", 3, 11), ("d{a}", 1, 11), ("2 c{a}, 3 d", 1, 21),
        ]:
            self.assertEqual(most_falls(book, read_grove(grove), bound), wanted, (grove, bound))

    def test_against_trying_all_falls(self):
        compared = 0
        for text, bound in itertools.product(SMALL, range(4)):
            book = read_book(text)
            trials = Trials(book, bound, 4000)
            for grove in GROVES:
                if is_small(book, read_grove(grove), bound, 40):
                    wanted = trials.longest(read_grove(grove))
                    if wanted is not None:
                        self.assertEqual(most_falls(book, read_grove(grove), bound), wanted, (text, grove, bound))
                        compared += 1
        self.assertGreater(compared, 250)

    def test_against_trying_all_falls_of_many(self):
        compared = 0
        for book, grove in books_and_groves(151, 300, most=3):
            for bound in range(4):
                if is_small(book, grove, bound, 24):
                    wanted = Trials(book, bound, 600).longest(grove)
                    if wanted is not None:
                        self.assertEqual(most_falls(book, grove, bound), wanted)
                        compared += 1
        self.assertGreater(compared, 150)

    def test_great_numbers(self):
        book = read_book("a; b > - / a; c *; d * > b / 2 a; e > - / 1000000000 b")
        self.assertEqual(most_falls(book, ((("a", ()), TOO_LONG - 1),), 5), TOO_LONG - 1)
        self.assertEqual(most_falls(book, read_grove("b"), SIXTY), SIXTY + 1)
        self.assertEqual(most_falls(book, read_grove("e"), SIXTY), 1 + SIXTY * 10 ** 9 * (SIXTY + 1))
        self.assertEqual(most_falls(book, read_grove("d"), SIXTY_NINES), 2 + 3 * SIXTY_NINES)
        self.assertEqual(most_falls(book, read_grove("c{990 a}"), 1), 2 ** 991 - 1)
        self.assertEqual(most_falls(book, read_grove("c{4 a}"), SIXTY), sum((SIXTY + 1) ** power for power in range(5)))
        self.assertEqual(most_falls(book, read_grove(f"c{{{SIXTY} a}}"), 0), SIXTY + 1)
        self.assertEqual(most_falls(read_book("a *"), stem(60), 0), 60)
        self.assertEqual(most_falls(read_book("a"), stem(60), SIXTY), 60)

    def test_two_groves_together(self):
        pairs = books_and_groves(152, 60, most=3)
        for book, grove in pairs:
            other = together(grove, read_grove("2 " + book.names()[0]))
            for bound in (0, 1):
                try:
                    told = most_falls(book, other, bound)
                except TooLong:
                    continue
                alone = most_falls(book, read_grove("2 " + book.names()[0]), bound)
                self.assertEqual(told, most_falls(book, grove, bound) + alone)

    def test_nought_just_where_there_are_no_trees(self):
        for book, grove in books_and_groves(153, 60, most=3):
            self.assertEqual(most_falls(book, (), 7), 0)
            try:
                self.assertGreater(most_falls(book, grove, 1), 0)
            except TooLong:
                pass


class Long(unittest.TestCase):

    def told(self, book, grove, bound):
        """The told long fall leads to one less, every other one to less; told is whether the number was not too long."""
        kept = copy.deepcopy(grove)
        try:
            ahead = most_falls(book, grove, bound)
        except TooLong:
            with self.assertRaises(TooLong):
                long_fall(book, grove, bound)
            return False
        told = long_fall(book, grove, bound)
        self.assertIsInstance(told, tuple)
        self.assertLessEqual(told[2], bound)
        self.assertGreaterEqual(told[2], 0)
        self.assertEqual(most_falls(book, fallen(book, grove, *told)[0], bound), ahead - 1)
        for place, rule in all_falls(book, grove):
            for number in sorted({0, 1, 2, bound // 2, bound}):
                if number <= bound:
                    self.assertLess(most_falls(book, fallen(book, grove, place, rule, number)[0], bound), ahead)
        self.assertEqual(long_fall(book, grove, bound), told)
        self.assertEqual(grove, kept)
        return True

    def test_small_ones(self):
        row = list(itertools.product(SMALL, GROVES[1:], (0, 1, 2, 3)))
        counted = [self.told(read_book(text), read_grove(grove), bound) for text, grove, bound in row]
        self.assertGreater(sum(counted), len(row) - 20)

    def test_many(self):
        counted = 0
        for book, grove in books_and_groves(154, 80, most=5) + books_and_groves(155, 40, most=3, manys=(1, SIXTY)):
            for bound in (0, 1, 2, 3, 10 ** 6, SIXTY, SIXTY_NINES):
                counted += self.told(book, grove, bound)
        self.assertGreater(counted, 250)

    def test_fall_after_fall_to_the_end(self):
        book = read_book("a; b > - / a; c *; d * > b / 2 a")
        for text in ["c{2 a}", "2 b, d", "c{b}", "d{a}, 2 c{a}", "b{c{a}}"]:
            grove = read_grove(", ".join(sorted(text.split(", "), key=lambda piece: piece.split(" ")[-1])))
            for left in range(most_falls(book, grove, 2), 0, -1):
                self.assertEqual(most_falls(book, grove, 2), left)
                grove = fallen(book, grove, *long_fall(book, grove, 2))[0]
            self.assertEqual(grove, ())

    def test_deep_ones(self):
        self.assertTrue(self.told(read_book("a *; b"), stem(12), 0))
        self.assertTrue(self.told(read_book("a; b"), stem(60), SIXTY))
        self.assertFalse(self.told(read_book("a *; b"), stem(12), 1))


class Refusals(unittest.TestCase):

    def refused(self, error, book, grove, bound):
        errors = []
        for deed in (most_falls, long_fall):
            with self.assertRaises(error, msg=(grove, bound)) as caught:
                deed(book, grove, bound)
            errors.append(caught.exception)
        return errors

    def test_too_long_just_from_there_on(self):
        book = read_book("a; b > - / a; c *")
        for extra in (-2, -1):
            grove = ((("a", ()), TOO_LONG + extra),)
            self.assertEqual(most_falls(book, grove, 0), TOO_LONG + extra)
            self.assertEqual(long_fall(book, grove, 0), ((0,), 0, 0))
        for extra in (0, 1, TOO_LONG):
            self.refused(TooLong, book, ((("a", ()), TOO_LONG + extra),), 0)
        self.refused(TooLong, book, ((("a", ((("a", ()), TOO_LONG - 1),)), 1),), 0)
        self.assertEqual(most_falls(book, ((("a", ((("a", ()), TOO_LONG - 2),)), 1),), 0), TOO_LONG - 1)
        self.refused(TooLong, book, ((("c", ((("a", ()), TOO_LONG - 1),)), 1),), 0)
        self.assertEqual(most_falls(book, ((("c", ((("a", ()), TOO_LONG - 2),)), 1),), 0), TOO_LONG - 1)
        self.assertEqual(most_falls(book, read_grove("b"), TOO_LONG - 2), TOO_LONG - 1)
        self.refused(TooLong, book, read_grove("b"), TOO_LONG - 1)
        self.assertEqual(most_falls(book, read_grove("c{995 a}"), 1), 2 ** 996 - 1)
        self.assertLess(2 ** 996 - 1, TOO_LONG)
        self.assertGreater(2 ** 997 - 1, TOO_LONG)
        self.refused(TooLong, book, read_grove("c{996 a}"), 1)
        self.refused(TooLong, book, read_grove(f"c{{{SIXTY} a}}"), 1)
        self.refused(TooLong, book, read_grove("c{c{c{c}}}"), 10 ** 20)

    def test_kinds_that_are_not_there_are_not_counted(self):
        book = read_book("a; b > - / a{a{a}}; c * > - / 1000000000 b{b{b}}; d * > - / c{c{c{c}}}; e > d / -; f > - / d")
        self.assertEqual(most_falls(book, read_grove("2 a"), SIXTY), 2)
        self.assertEqual(long_fall(book, read_grove("2 a"), SIXTY), ((0,), 0, SIXTY))
        self.refused(TooLong, book, read_grove("d"), 1)
        self.refused(TooLong, book, read_grove("e"), 1)
        # What is laid as often as is said counts for nothing where only 0 is said.
        self.assertEqual(most_falls(book, read_grove("f"), 0), 1)

    def test_order(self):
        book = read_book("a; b > b / -; c > b / -; d > a / -; e *")
        for text, error, kind in [
            ("z", NoKind, "z"), ("b, y, z", NoKind, "y"), ("b{z}, y", NoKind, "y"), ("e{e{e{e{e{e}}}}}, z", NoKind, "z"),
            ("b", Endless, "b"), ("c", Endless, "c"), ("c{b}", Endless, "b"), ("c, e{e{e{e{e{e}}}}}", Endless, "c"),
        ]:
            for told in self.refused(error, book, read_grove(text), 1000):
                self.assertEqual(told.kind, kind)
        self.refused(TooLong, book, read_grove("e{e{e{e{e{e}}}}}"), 1000)

    def test_no_place_without_trees(self):
        book = read_book("a; b > b / -")
        for bound in (0, 1, SIXTY, TOO_LONG):
            self.assertEqual(most_falls(book, (), bound), 0)
            with self.assertRaises(NoPlace):
                long_fall(book, (), bound)
