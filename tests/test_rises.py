import copy
import itertools
import unittest

from felltimber.books import Book
from felltimber.booktexts import read_book
from felltimber.errors import NoKind, NoNumber, NoPlace, NoRise, NoRule, TooGreat
from felltimber.falls import fallen
from felltimber.grovetexts import read_grove, show_grove
from felltimber.places import tree_at
from felltimber.rises import risen
from felltimber.trees import parts_of
from tests.makers import SIXTY, SIXTY_NINES, all_falls, all_rules, books_and_groves, odd_things, places_with_trees, stem

A = ("a", ())
BOOK = read_book("a; b * > 2 a / -; c > - / a, b{a}; d * > a / b > - / c")


class Rises(unittest.TestCase):

    def told(self, grove, place, kind, rule, number, wanted, path):
        ahead, bare = risen(BOOK, read_grove(grove), place, kind, rule, number)
        self.assertEqual((show_grove(ahead), bare), (wanted, path))

    def test_at_the_top(self):
        self.told("-", (), "a", 0, 0, "a", (0,))
        self.told("-", (), "a", 0, 9, "a", (0,))
        self.told("2 a", (), "a", 0, 9, "3 a", (0,))
        self.told("2 a", (), "b", 1, 9, "b", (0,))
        self.told("3 a, b", (), "b", 1, 9, "a, 2 b", (1,))
        self.told("4 a, 3 b{a}", (), "c", 1, 3, "a, c", (1,))
        self.told("a, 2 b, d", (), "d", 1, 2, "2 d", (0,))

    def test_within_trees(self):
        self.told("c", (0,), "a", 0, 5, "c{a}", (0, 0))
        self.told("c{2 a}, c{b}", (0,), "b", 1, 9, "2 c{b}", (0, 0))
        self.told("4 b, 4 b{a}", (0,), "a", 0, 3, "5 b{a}", (0, 0))
        self.told("4 b", (0,), "a", 0, 2, "b, b{a}", (1, 0))
        self.told("3 d{2 a, 2 b{a}}", (0,), "c", 1, 2, "d{c}", (0, 0))
        wanted = "2 b{3 c{4 d{5 a}}}"
        self.told("2 b{c{2 d{4 a}, 3 d{5 a}}, 2 c{4 d{5 a}}}, b{3 c{4 d{5 a}}}", (0, 0, 0), "a", 0, 1, wanted, (0, 0, 0, 0))

    def test_sixty_figures(self):
        self.told(f"{SIXTY} a, {SIXTY} b{{a}}", (), "c", 1, SIXTY, "c", (0,))
        self.told(f"{SIXTY_NINES} b", (0,), "a", 0, SIXTY_NINES - 1, "b{a}", (0, 0))
        self.assertEqual(risen(BOOK, ((("b", ()), 10 ** 60),), (0,), "a", 0, SIXTY_NINES), (read_grove("b{a}"), (0, 0)))

    def test_each_fall_is_taken_back(self):
        for book, grove in books_and_groves(51, 150, ending=False, manys=(1, 1, 2, 3, SIXTY)):
            kept = copy.deepcopy(grove)
            for place, rule in all_falls(book, grove):
                kind = tree_at(grove, place)[0]
                for number in (0, 1, 2, SIXTY):
                    left, changed = fallen(book, grove, place, rule, number)
                    told = risen(book, left, changed, kind, rule, number)
                    self.assertIsInstance(told, tuple)
                    self.assertEqual(told, (grove, place))
            self.assertEqual(grove, kept)

    def test_what_can_be_taken_back_leads_here(self):
        done = refused = 0
        for book, grove in books_and_groves(52, 200, ending=False, manys=(1, 2, 3, 5)):
            for place in [()] + [place for place, tree in places_with_trees(grove)]:
                for kind in book.names():
                    for rule, number in itertools.product(range(len(all_rules(book, kind))), (0, 1, 2)):
                        try:
                            ahead, bare = risen(book, grove, place, kind, rule, number)
                        except NoRise:
                            refused += 1
                            continue
                        done += 1
                        self.assertEqual(tree_at(ahead, bare), (kind, ()))
                        self.assertEqual(fallen(book, ahead, bare, rule, number), (grove, place))
        self.assertGreater(done, 5000)
        self.assertGreater(refused, 5000)


class Refusals(unittest.TestCase):

    def refused(self, error, grove, place, kind, rule, number, book=BOOK):
        with self.assertRaises(error, msg=(grove, place, kind, rule, number)) as caught:
            risen(book, grove, place, kind, rule, number)
        return caught.exception

    def no_rise(self, text, place, kind, rule, number):
        self.refused(NoRise, read_grove(text), place, kind, rule, number)

    def test_not_enough_of_what_the_rule_lays(self):
        for text in ["-", "a", "b", "a, b", "a{2 a}", "2 c"]:
            self.no_rise(text, (), "b", 1, 0)
        for text in ["-", "2 a", "2 b{a}", "a, 2 b{a}", "2 a, b{a}", "2 a, 2 b", "2 a, 2 b{2 a}", "2 a, 2 c{a}"]:
            self.no_rise(text, (), "c", 1, 2)
        self.no_rise("c{a}", (0,), "b", 1, 0)
        self.no_rise("2 a, c", (1,), "b", 1, 0)
        self.no_rise(f"{SIXTY - 1} a, {SIXTY} b{{a}}", (), "c", 1, SIXTY)
        self.no_rise("a, b", (), "d", 1, 2)

    def test_not_enough_of_a_tree_that_spreads(self):
        self.no_rise("b", (0,), "a", 0, 1)
        self.no_rise("3 b", (0,), "a", 0, 3)
        self.no_rise("3 b, 9 b{a}", (0,), "a", 0, 3)
        self.no_rise("4 b{c{2 d}}", (0, 0, 0), "a", 0, 2)
        self.no_rise("2 b{c{4 d}}", (0, 0, 0), "a", 0, 2)
        self.no_rise(f"{SIXTY} b", (0,), "a", 0, SIXTY)
        self.assertEqual(risen(BOOK, read_grove("3 b{c{3 d}}"), (0, 0, 0), "a", 0, 2)[0], read_grove("b{c{d{a}}}"))

    def test_once_and_each_of_one_tree_are_wanted_together(self):
        book = read_book("a; b > 2 a / 3 a")
        self.assertEqual(risen(book, read_grove("8 a"), (), "b", 1, 2), (read_grove("b"), (0,)))
        self.refused(NoRise, read_grove("7 a"), (), "b", 1, 2, book)

    def test_kinds_of_the_grove_then_the_kind(self):
        for text, kind in [("z", "z"), ("b{z}, e", "e"), ("b{e}, z", "e")]:
            self.assertEqual(self.refused(NoKind, read_grove(text), (), "x", 0, 0).kind, kind)
            self.assertEqual(self.refused(NoKind, read_grove(text), (9,), "a", None, -1).kind, kind)
        for name in ["", " ", "z", "A", "aa", "abcdefghi", "a "]:
            self.assertEqual(self.refused(NoKind, read_grove("a"), (), name, 0, 0).kind, name)

    def test_places(self):
        grove = read_grove("2 a, b{3 c, d{a}}")
        for place in [(2,), (-1,), (0, 0), (1, 2), (1, 0, 0), (1, 1, 1), (10 ** 60,)]:
            self.refused(NoPlace, grove, place, "a", 0, 0)
        for thing in odd_things() + [True, False, "0", (0,), (), [0], -1]:
            for place in [(thing,), (1, thing), (thing, 0), (1, thing, 0), (0, thing)]:
                self.refused(NoPlace, grove, place, "a", 0, 0)
        self.refused(NoPlace, (), (0,), "a", 0, 0)

    def test_rules_and_numbers(self):
        grove = read_grove("9 a, 9 b, 9 c")
        for thing in odd_things() + [True, False, "0", "1", (0,), [1], [], (), -1, -SIXTY, {1: 1}]:
            self.refused(NoRule, grove, (), "d", thing, 0)
            self.refused(NoNumber, grove, (), "d", 1, thing)
        self.refused(NoRule, grove, (), "a", 1, 0)
        self.refused(NoRule, grove, (), "b", 2, 0)
        self.refused(NoRule, grove, (), "d", 3, 0)

    def test_the_first_in_their_order(self):
        book = Book([("a", False, [(((("b", ()), 1),), ())]), ("b", False, [])])
        order = [NoKind, NoKind, NoPlace, NoRule, NoNumber, NoRise, TooGreat]
        for faults in itertools.product([False, True], repeat=7):
            strange, name, spot, rule, number, poor, great = faults
            levels = 60 if great else 59
            grove = stem(levels) + (((("z", ()), 1),) if strange else ())
            place = (0,) * (levels + 1 if spot else levels)
            due = [error for error, fault in zip(order, faults) if fault]
            row = (grove, place, "y" if name else "a", 2 if rule else int(poor), -1 if number else 0)
            if due:
                error = self.refused(due[0], *row, book=book)
                if due[0] == NoKind:
                    self.assertEqual(error.kind, "z" if strange else "y")
            else:
                self.assertEqual(risen(book, *row), (stem(60), (0,) * 60))

    def test_too_many_parts(self):
        book = read_book("a; b *; c; d")
        for many, spare, wanted in [(999, "a", 2000), (999, "a, c", None), (1000, "-", None), (998, "a, c", 1999)]:
            grove = tuple(sorted(tuple(((("b", ((A, count),)), 4)) for count in range(10, 10 + many)) + read_grove(spare)))
            if wanted:
                self.assertEqual(parts_of(risen(book, grove, (), "d", 0, 0)[0]), wanted)
            else:
                self.refused(TooGreat, grove, (), "d", 0, 0, book)

    def test_what_is_refused_changes_nothing(self):
        grove = read_grove("2 a, b{3 c, d{a}}")
        kept = copy.deepcopy(grove)
        self.refused(NoRise, grove, (1,), "d", 1, 5)
        self.assertEqual(grove, kept)
