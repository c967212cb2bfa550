import copy
import itertools
import random
import unittest

from felltimber.books import Book
from felltimber.booktexts import read_book
from felltimber.errors import NoKind, NoNumber, NoPlace, NoRule, TooGreat
from felltimber.falls import choices, fallen
from felltimber.grovetexts import read_grove, show_grove
from felltimber.places import tree_at
from felltimber.trees import deep_of, is_grove, parts_of
from tests.makers import SIXTY, SIXTY_NINES, all_falls, all_rules, books_and_groves, odd_things, places_with_trees
from tests.makers import put_together, stem
from tests.plainfalls import plain_fallen

A = ("a", ())
BOOK = read_book("a; b * > 2 a / -; c > - / a, b{a}; d * > a / b > - / c")


def hedge(many, least=10):
    """A grove of so many unlike trees b that hold a's, four of each: two parts each."""
    return tuple(((("b", ((A, count),)), 4)) for count in range(least, least + many))


class Falls(unittest.TestCase):

    def told(self, grove, place, rule, number, wanted, path):
        left, changed = fallen(BOOK, read_grove(grove), place, rule, number)
        self.assertEqual((show_grove(left), changed), (wanted, path))

    def test_at_the_top(self):
        self.told("a", (0,), 0, 0, "-", ())
        self.told("a", (0,), 0, 7, "-", ())
        self.told("3 a", (0,), 0, 5, "2 a", ())
        self.told("b", (0,), 1, 9, "2 a", ())
        self.told("b", (0,), 0, 9, "-", ())
        self.told("a, 2 b", (1,), 1, 1, "3 a, b", ())
        self.told("c", (0,), 1, 0, "-", ())
        self.told("c", (0,), 1, 1, "a, b{a}", ())
        self.told("a, c", (1,), 1, 3, "4 a, 3 b{a}", ())
        self.told("2 d", (0,), 1, 2, "a, 2 b, d", ())
        self.told("2 d", (0,), 2, 2, "2 c, d", ())

    def test_within_a_holder_that_does_not_spread(self):
        self.told("c{b}", (0, 0), 1, 9, "c{2 a}", (0,))
        self.told("c{b}", (0, 0), 0, 9, "c", (0,))
        self.told("2 c{b}", (0, 0), 1, 9, "c{2 a}, c{b}", (0,))
        self.told("2 c{b}", (0, 0), 0, 9, "c, c{b}", (0,))
        self.told("c, c{a}", (1, 0), 0, 3, "2 c", (0,))
        self.told("c{d}", (0, 0), 1, 3, "c{a, 3 b}", (0,))

    def test_within_a_holder_that_spreads(self):
        self.told("b{a}", (0, 0), 0, 0, "b", (0,))
        self.told("b{a}", (0, 0), 0, 3, "4 b", (0,))
        self.told("5 b{a}", (0, 0), 0, 3, "4 b, 4 b{a}", (0,))
        self.told("5 b{2 a}", (0, 0), 0, 3, "4 b{a}, 4 b{2 a}", (0,))
        self.told("5 b{a}, b{2 a}", (1, 0), 0, 2, "8 b{a}", (0,))
        self.told("d{c}", (0, 0), 1, 2, "3 d{2 a, 2 b{a}}", (0,))

    def test_deep_within(self):
        self.told("b{c{d{a}}}", (0, 0, 0, 0), 0, 2, "3 b{c{3 d}}", (0, 0, 0))
        self.told("b{c{d{a}}}", (0, 0, 0, 0), 0, 0, "b{c{d}}", (0, 0, 0))
        wanted = "2 b{c{2 d{4 a}, 3 d{5 a}}, 2 c{4 d{5 a}}}, b{3 c{4 d{5 a}}}"
        self.told("2 b{3 c{4 d{5 a}}}", (0, 0, 0, 0), 0, 1, wanted, (0, 0, 0))
        self.told("c{c{c{a, b}}}", (0, 0, 0, 1), 1, 5, "c{c{c{3 a}}}", (0, 0, 0))

    def test_the_place_where_the_changed_tree_comes_to_stand_elsewhere(self):
        self.told("b, c{c}, d", (1, 0), 1, 1, "b, c{a, b{a}}, d", (1,))
        self.told("b, b{b}, c", (1, 0), 0, 0, "2 b, c", (0,))
        self.told("d{a}, d{d}", (0, 0), 0, 0, "d, d{d}", (0,))
        self.told("d{a, b}, d{b}, d{c}", (0, 1), 1, 0, "d{3 a}, d{b}, d{c}", (0,))
        self.told("d{a, b}, d{b}, d{c}", (0, 0), 0, 0, "2 d{b}, d{c}", (0,))
        self.told("d{a, c}, d{b}", (0, 0), 0, 0, "d{b}, d{c}", (1,))
        self.told("c{d{a, c}, d{b}}", (0, 0, 0), 0, 1, "c{d{b}, 2 d{c}}", (0, 1))

    def test_sixty_figures(self):
        self.told("c", (0,), 1, SIXTY, f"{SIXTY} a, {SIXTY} b{{a}}", ())
        self.told("b{a}", (0, 0), 0, SIXTY_NINES, f"{10 ** 60} b", (0,))
        self.told("b{c, d}", (0, 0), 1, SIXTY, f"{SIXTY + 1} b{{{SIXTY} a, {SIXTY} b{{a}}, d}}", (0,))
        self.told(f"{SIXTY} b{{{SIXTY} a}}", (0, 0), 0, 0, f"b{{{SIXTY - 1} a}}, {SIXTY - 1} b{{{SIXTY} a}}", (0,))
        self.told("b{b{a}}", (0, 0, 0), 0, SIXTY, f"{SIXTY + 1} b{{{SIXTY + 1} b}}", (0, 0))

    def test_numbers_that_the_program_told(self):
        great = 10 ** 3999
        self.assertEqual(fallen(BOOK, ((("b", ((A, great),)), great),), (0, 0), 0, great)[0][0][1], great + 1)

    def test_many_books_and_groves(self):
        for book, grove in books_and_groves(41, 150, ending=False):
            kept = copy.deepcopy(grove)
            for place, rule in all_falls(book, grove):
                for number in (0, 1, 2):
                    told = fallen(book, grove, place, rule, number)
                    self.assertIsInstance(told, tuple)
                    self.assertEqual(told, plain_fallen(book, grove, place, rule, number))
                    self.assertTrue(is_grove(told[0]))
            self.assertEqual(grove, kept)

    def test_each_place_told_leads_to_the_changed_tree(self):
        for book, grove in books_and_groves(42, 100, ending=False, most=20, manys=(1, 2, SIXTY)):
            for place, rule in all_falls(book, grove):
                left, changed = fallen(book, grove, place, rule, SIXTY)
                self.assertEqual(len(changed), len(place) - 1)
                bare = tree_at(grove, place)
                once, each = all_rules(book, bare[0])[rule]
                stood = tree_at(grove, place[:-1])[1] if changed else grove
                stands = tree_at(left, changed)[1] if changed else left
                laid = [(tree, many * SIXTY) for tree, many in each] + list(once) + list(stood)
                # The struck tree is put back on the one side, for nothing can be taken away here.
                self.assertEqual(put_together(list(stands) + [(bare, 1)]), put_together(laid))
                for end in range(1, len(place)):
                    self.assertEqual(tree_at(left, changed[:end])[0], tree_at(grove, place[:end])[0])

    def test_falls_in_great_groves(self):
        grove = tuple(sorted([((name, stem(11)), 1) for name in "abcd"]))
        book = read_book("a; b; c; d")
        self.assertEqual(deep_of(grove), 12)
        for place, rule in all_falls(book, grove):
            self.assertEqual(deep_of(fallen(book, grove, place, rule, 5)[0]), 12)


class Refusals(unittest.TestCase):

    def refused(self, error, grove, place, rule, number, book=BOOK):
        with self.assertRaises(error, msg=(grove, place, rule, number)) as caught:
            fallen(book, grove, place, rule, number)
        return caught.exception

    def test_kinds(self):
        for text, kind in [("z", "z"), ("a, z", "z"), ("e, z", "e"), ("b{z}, e", "e"), ("b{e}, z", "e"), ("aa{a}", "aa"), ("e{e}", "e")]:
            grove = read_grove(text)
            self.assertEqual(self.refused(NoKind, grove, (0,), 0, 0).kind, kind)
            self.assertEqual(self.refused(NoKind, grove, (), None, -1).kind, kind)
            with self.assertRaises(NoKind) as caught:
                choices(BOOK, grove)
            self.assertEqual(caught.exception.kind, kind)

    def test_places(self):
        grove = read_grove("2 a, b{3 c, d{a}}")
        for place in [(), (1,), (1, 1), (2,), (-1,), (-2,), (0, 0), (1, 2), (1, 0, 0), (1, 1, 1), (1, 1, 0, 0), (10 ** 60,)]:
            self.refused(NoPlace, grove, place, 0, 0)
        for thing in odd_things() + [True, False, "0", (0,), (), [0], -1]:
            for place in [(thing,), (1, thing), (thing, 0), (1, thing, 0), (0, thing)]:
                self.refused(NoPlace, grove, place, 0, 0)
        self.refused(NoPlace, (), (), 0, 0)
        self.refused(NoPlace, (), (0,), 0, 0)

    def test_each_place_that_is_not_bare(self):
        for book, grove in books_and_groves(43, 60):
            for place, tree in places_with_trees(grove):
                if tree[1]:
                    self.refused(NoPlace, grove, place, 0, 0, book)

    def test_rules(self):
        grove = read_grove("a, b, d")
        for rule in odd_things() + [True, False, "0", "1", (0,), [1], [], (), -1, 3, 10 ** 60, -SIXTY, {1: 1}]:
            for place in [(0,), (1,), (2,)]:
                self.refused(NoRule, grove, place, rule, 0)
        self.refused(NoRule, grove, (0,), 1, 0)
        self.refused(NoRule, grove, (1,), 2, 0)

    def test_numbers(self):
        grove = read_grove("a, b, d")
        for number in odd_things() + [True, False, "0", "1", (0,), [1], [], (), -1, -SIXTY, {1: 1}]:
            for place, rule in [((0,), 0), ((1,), 1), ((2,), 2)]:
                self.refused(NoNumber, grove, place, rule, number)

    def test_the_first_in_their_order(self):
        book = Book([("a", False, [(stem(2), ())])])
        place = (0,) * 60
        for faults in itertools.product([False, True], repeat=5):
            kind, spot, rule, number, great = faults
            grove = stem(60) + (((("z", ()), 1),) if kind else ())
            due = [error for error, fault in zip([NoKind, NoPlace, NoRule, NoNumber, TooGreat], faults) if fault]
            row = (grove, place[:-1] if spot else place, 1 if great else 0)
            row = (row[0], row[1], 2 if rule else row[2], -1 if number else 0)
            if due:
                self.refused(due[0], *row, book=book)
            else:
                self.assertEqual(fallen(book, *row), (stem(59), (0,) * 59))

    def test_what_is_refused_changes_nothing(self):
        grove = read_grove("2 a, b{3 c, d{a}}")
        kept = copy.deepcopy(grove)
        self.refused(NoNumber, grove, (1, 0), 1, -1)
        self.assertEqual(grove, kept)
        self.assertEqual(BOOK.names(), ["a", "b", "c", "d"])


class Bounds(unittest.TestCase):

    def test_sixty_deep(self):
        book = Book([("a", False, [(stem(2), ()), (stem(1), ()), (stem(3), ())])])
        grove, place = ((A, 1),), (0,)
        for levels in range(2, 61):
            grove, changed = fallen(book, grove, place, 1, 5)
            place = changed + (0, 0)
            self.assertEqual(grove, stem(levels))
        with self.assertRaises(TooGreat):
            fallen(book, grove, place, 1, 0)
        self.assertEqual(fallen(book, grove, place, 2, 0), (grove, place[:-1]))
        self.assertEqual(fallen(book, grove, place, 0, 0), (stem(59), place[:-1]))
        with self.assertRaises(TooGreat):
            fallen(book, stem(59), (0,) * 59, 3, 0)
        self.assertEqual(fallen(book, stem(58), (0,) * 58, 3, 0)[0], stem(60))

    def test_two_thousand_parts(self):
        book = read_book("a > - / - > c / - > c, d / -; b *; c; d")
        grove = hedge(999)
        self.assertEqual(parts_of(grove), 1998)
        left, changed = fallen(book, grove, (0, 0), 0, 3)
        self.assertEqual((parts_of(left), changed), (2000, (0,)))
        for place in [(0, 0), (500, 0), (999, 0)]:
            # Two parts more where the lesser stock stands nowhere yet, none where it does.
            if place == (0, 0):
                with self.assertRaises(TooGreat):
                    fallen(book, left, place, 0, 0)
            else:
                self.assertEqual(parts_of(fallen(book, left, place, 0, 0)[0]), 2000)
            with self.assertRaises(TooGreat):
                fallen(book, left, place, 2, 0)

    def test_just_beyond_two_thousand_parts(self):
        book = read_book("a > - / - > c / - > c, d / -; b *; c; d")
        for first, rule, extra in [("5 a", 1, 0), ("5 a", 2, 1), ("5 a", 3, 2), ("5 a, b", 1, 0), ("5 a, b", 2, 1), ("5 a, b", 3, 2)]:
            for many in (998, 999):
                grove = tuple(sorted(hedge(many) + read_grove(first)))
                wanted = parts_of(grove) + extra
                if wanted > 2000:
                    with self.assertRaises(TooGreat):
                        fallen(book, grove, (0,), rule, 0)
                else:
                    self.assertEqual(parts_of(fallen(book, grove, (0,), rule, 0)[0]), wanted)

    def test_grown_by_falls_up_to_the_bound(self):
        book = read_book("a; b *")
        for first, steps in [("4 b{5000 a}", 999), ("a, 4 b{5000 a}", 998)]:
            grove = read_grove(first)
            at = len(grove) - 1
            for turn in range(steps):
                grove, changed = fallen(book, grove, (at, 0), 0, 3)
                self.assertEqual(changed, (at,))
            self.assertEqual(parts_of(grove), parts_of(read_grove(first)) + 2 * steps)
            with self.assertRaises(TooGreat):
                fallen(book, grove, (at, 0), 0, 3)

    def test_no_fall_in_a_small_grove_meets_the_bound(self):
        chance = random.Random(44)
        for book, grove in books_and_groves(44, 20, ending=False, most=60):
            for place, rule in all_falls(book, grove):
                fallen(book, grove, place, rule, chance.choice([0, 1, SIXTY_NINES]))


class Choices(unittest.TestCase):

    def test_some(self):
        self.assertEqual(choices(BOOK, ()), [])
        self.assertEqual(choices(BOOK, read_grove("a")), [((0,), 0)])
        self.assertEqual(choices(BOOK, read_grove("9 b")), [((0,), 0), ((0,), 1)])
        wanted = [((0,), 0), ((1, 0), 0), ((1, 0), 1), ((1, 1, 0), 0), ((2,), 0), ((2,), 1), ((2,), 2)]
        self.assertEqual(choices(BOOK, read_grove("2 a, b{3 c, d{a}}, d")), wanted)

    def test_sorted_for_many(self):
        for book, grove in books_and_groves(45, 200, ending=False, most=30):
            self.assertEqual(choices(book, grove), sorted(all_falls(book, grove)))

    def test_a_row_of_more_than_ten(self):
        book = read_book("a; b; c")
        grove = tuple(((("a", ((("b", ()), many),)), 1)) for many in range(1, 14))
        self.assertEqual(choices(book, grove), [((at, 0), 0) for at in range(13)])

    def test_told_again_behind_a_change(self):
        grove = read_grove("2 a, b{3 c, d{a}}, d")
        told = choices(BOOK, grove)
        kept = list(told)
        told.reverse()
        told.append(((9,), 9))
        self.assertEqual(choices(BOOK, grove), kept)
        self.assertEqual(len(BOOK.rules("d")), 2)
