import copy
import itertools
import unittest

from felltimber.booktexts import read_book
from felltimber.errors import NoKind, NoPlace, TooLong
from felltimber.falls import fallen
from felltimber.fewests import fewest_falls, short_fall
from felltimber.grovetexts import read_grove, show_grove
from felltimber.trees import size, together
from tests.makers import SIXTY, SIXTY_NINES, all_falls, books_and_groves, stem

TOO_LONG = 10 ** 300
SMALL = [
    "a; b > a / -", "a *; b > - / a", "a * > 2 a / - > - / a; b > a{b} / -", "a; b * > 2 a / - > - / b", "a > a / a; b * > - / a > a{a} / -",
    "a *; b *", "a > b / -; b * > a / a",
]
GROVES = [
    "-", "a", "b", "2 a", "a, b", "2 b", "a{a}", "a{b}", "b{a}", "b{b}", "a{2 a}", "2 a{a}", "b{a, b}", "a{a{a}}", "b{a{a}}", "a{b{a}}", "a, b{a}", "2 b{a}",
]


class Trials:
    """In how many falls a hand can surely be done, by trying all falls and all answers."""

    def __init__(self, book, bound):
        self.book, self.bound, self.known = book, bound, {}

    def can(self, grove, falls):
        """Whether so many falls are enough, whatever is said."""
        # Each fall strikes off one tree, so there are no fewer falls than trees.
        if size(grove) > falls:
            return False
        key = (show_grove(grove), falls)
        if key not in self.known:
            self.known[key] = not grove or any(self.holds(grove, falls, *choice) for choice in all_falls(self.book, grove))
        return self.known[key]

    def holds(self, grove, falls, place, rule):
        """Whether a fall is a good one, whatever is said."""
        behind = [fallen(self.book, grove, place, rule, number)[0] for number in range(self.bound + 1)]
        return all(self.can(some, falls - 1) for some in behind)

    def is_fewest(self, grove, falls):
        return self.can(grove, falls) and (falls == 0 or not self.can(grove, falls - 1))


class Fewest(unittest.TestCase):

    def test_some(self):
        book = read_book("a; b > - / a; c *; d * > d{d} / 2 a")
        for grove, bound, wanted in [
            ("-", 5, 0), ("a", 0, 1), ("a", 9, 1), ("7 a", 3, 7), ("b", 0, 1), ("b", 9, 1), ("a{a}", 4, 2), ("a{3 a}", 4, 4), ("b{b}", 5, 2),
            ("c", 9, 1), ("d", 9, 1), ("c{a}", 0, 2), ("c{a}", 1, 3), ("c{a}", 2, 4), ("c{2 a}", 1, 7), ("c{2 a}", 2, 13), ("c{b}", 1, 3),
            ("c{c{a}}", 1, 15), ("c{c{a}}", 0, 3), ("d{d}", 1, 3), ("2 c{a}, 3 d", 1, 9), ("a{c{d{b}}}", 1, 16),
        ]:
            self.assertEqual(fewest_falls(book, read_grove(grove), bound), wanted, (grove, bound))

    def test_against_trying_all_falls_and_answers(self):
        compared = 0
        for text, bound in itertools.product(SMALL, range(4)):
            trials = Trials(read_book(text), bound)
            for grove in GROVES:
                told = fewest_falls(read_book(text), read_grove(grove), bound)
                if told <= 16:
                    self.assertTrue(trials.is_fewest(read_grove(grove), told), (text, grove, bound))
                    compared += 1
        self.assertGreater(compared, 320)

    def test_against_trying_all_falls_and_answers_of_many(self):
        compared = 0
        for book, grove in books_and_groves(161, 120, ending=False, most=3, manys=(1, 1, 2)):
            for bound in range(3):
                told = fewest_falls(book, grove, bound)
                if told <= 12:
                    self.assertTrue(Trials(book, bound).is_fewest(grove, told), (grove, bound))
                    compared += 1
        self.assertGreater(compared, 200)

    def test_great_numbers(self):
        book = read_book("a > a / -; b > - / a; c *")
        self.assertEqual(fewest_falls(book, ((("a", ()), TOO_LONG - 1),), 5), TOO_LONG - 1)
        self.assertEqual(fewest_falls(book, read_grove("b"), SIXTY), 1)
        self.assertEqual(fewest_falls(book, read_grove("c{990 a}"), 1), 2 ** 991 - 1)
        self.assertEqual(fewest_falls(book, read_grove("c{4 b}"), SIXTY), sum((SIXTY + 1) ** power for power in range(5)))
        self.assertEqual(fewest_falls(book, read_grove(f"c{{{SIXTY} b}}"), 0), SIXTY + 1)
        self.assertEqual(fewest_falls(read_book("a"), stem(60), SIXTY), 60)
        self.assertEqual(fewest_falls(read_book("a *"), stem(60), 0), 60)

    def test_two_groves_together(self):
        for book, grove in books_and_groves(162, 60, ending=False, most=4):
            for name, bound in itertools.product(book.names(), (0, 1)):
                try:
                    other = read_grove(f"2 {name}{{3 {book.names()[0]}}}")
                    told = fewest_falls(book, together(grove, other), bound)
                except TooLong:
                    continue
                self.assertEqual(told, fewest_falls(book, grove, bound) + fewest_falls(book, other, bound))


class Short(unittest.TestCase):

    def told(self, book, grove, bound):
        """Behind the told fall there are fewer, whatever is said; told is whether the number was not too long."""
        kept = copy.deepcopy(grove)
        try:
            ahead = fewest_falls(book, grove, bound)
        except TooLong:
            with self.assertRaises(TooLong):
                short_fall(book, grove, bound)
            return False
        told = short_fall(book, grove, bound)
        self.assertIsInstance(told, tuple)
        place, rule = told
        for number in sorted({0, 1, 2, bound // 2, bound - 1, bound}):
            if 0 <= number <= bound:
                self.assertLess(fewest_falls(book, fallen(book, grove, place, rule, number)[0], bound), ahead)
        self.assertEqual(fewest_falls(book, fallen(book, grove, place, rule, bound)[0], bound), ahead - 1)
        self.assertEqual(short_fall(book, grove, bound), told)
        self.assertEqual(grove, kept)
        self.no_fall_leads_further(book, grove, bound, ahead)
        return True

    def no_fall_leads_further(self, book, grove, bound, ahead):
        """Where the bound is said no fall leads to fewer than one less."""
        for place, rule in all_falls(book, grove):
            try:
                self.assertGreaterEqual(fewest_falls(book, fallen(book, grove, place, rule, bound)[0], bound), ahead - 1)
            except TooLong:
                pass

    def test_small_ones(self):
        row = list(itertools.product(SMALL, GROVES[1:], (0, 1, 2, 3)))
        counted = [self.told(read_book(text), read_grove(grove), bound) for text, grove, bound in row]
        self.assertEqual(sum(counted), len(row))

    def test_many(self):
        counted = 0
        pairs = books_and_groves(163, 80, ending=False, most=6) + books_and_groves(164, 60, ending=False, most=3, manys=(1, SIXTY))
        for book, grove in pairs:
            for bound in (0, 1, 2, 3, 10 ** 6, SIXTY, SIXTY_NINES):
                counted += self.told(book, grove, bound)
        self.assertGreater(counted, 500)

    def test_fall_after_fall_to_the_end(self):
        book = read_book("a > 2 a / a; b *; c * > c{c} / b")
        for text in ["b{2 a}", "a, b{c}", "2 c{a}", "c{b{a}}"]:
            grove = read_grove(text)
            for left in range(fewest_falls(book, grove, 2), 0, -1):
                self.assertEqual(fewest_falls(book, grove, 2), left)
                place, rule = short_fall(book, grove, 2)
                grove = fallen(book, grove, place, rule, 2)[0]
            self.assertEqual(grove, ())

    def test_deep_ones(self):
        self.assertTrue(self.told(read_book("a * > a / -"), stem(12), 0))
        self.assertTrue(self.told(read_book("a > a / -"), stem(60), SIXTY))
        self.assertFalse(self.told(read_book("a * > a / -"), stem(12), 1))


class Refusals(unittest.TestCase):

    def refused(self, error, book, grove, bound):
        errors = []
        for deed in (fewest_falls, short_fall):
            with self.assertRaises(error, msg=(grove, bound)) as caught:
                deed(book, grove, bound)
            errors.append(caught.exception)
        return errors

    def test_too_long_just_from_there_on(self):
        book = read_book("a; b > - / b; c *")
        for extra in (-2, -1):
            grove = ((("b", ()), TOO_LONG + extra),)
            self.assertEqual(fewest_falls(book, grove, 0), TOO_LONG + extra)
            self.assertEqual(short_fall(book, grove, 0), ((0,), 0))
        for extra in (0, 1, TOO_LONG):
            self.refused(TooLong, book, ((("b", ()), TOO_LONG + extra),), 0)
        for kind in ("a", "c"):
            self.assertEqual(fewest_falls(book, (((kind, ((("a", ()), TOO_LONG - 2),)), 1),), 0), TOO_LONG - 1)
            self.refused(TooLong, book, (((kind, ((("a", ()), TOO_LONG - 1),)), 1),), 0)
        self.assertEqual(fewest_falls(book, read_grove("c{995 b}"), 1), 2 ** 996 - 1)
        self.refused(TooLong, book, read_grove("c{996 b}"), 1)
        # The a falls, and then one c and as many more as were said.
        self.assertEqual(fewest_falls(book, read_grove("c{a}"), TOO_LONG - 3), TOO_LONG - 1)
        self.refused(TooLong, book, read_grove("c{a}"), TOO_LONG - 2)
        self.refused(TooLong, book, read_grove(f"c{{{SIXTY} a}}"), 1)
        self.refused(TooLong, book, read_grove("c{c{c{c}}}"), 10 ** 20)

    def test_order(self):
        book = read_book("a; b > b / -; e *")
        for text, kind in [("z", "z"), ("b, y, z", "y"), ("b{z}, y", "y"), ("e{e{e{e{e{e}}}}}, z", "z"), ("e{e{e{e{e{y}}}}}, z", "y")]:
            for told in self.refused(NoKind, book, read_grove(text), 1000):
                self.assertEqual(told.kind, kind)
        self.refused(TooLong, book, read_grove("e{e{e{e{e{e}}}}}"), 1000)

    def test_no_place_without_trees(self):
        book = read_book("a; b > b / -")
        for bound in (0, 1, SIXTY, TOO_LONG):
            self.assertEqual(fewest_falls(book, (), bound), 0)
            with self.assertRaises(NoPlace):
                short_fall(book, (), bound)
