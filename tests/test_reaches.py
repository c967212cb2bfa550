import copy
import itertools
import random
import unittest

from felltimber.booktexts import read_book
from felltimber.errors import Endless, NoKind, NoReach
from felltimber.falls import fallen
from felltimber.grovetexts import read_grove
from felltimber.ladders import is_less, number
from felltimber.laddertexts import read_ladder
from felltimber.ranks import rank
from felltimber.reaches import fall_to
from felltimber.sums import both
from tests.makers import SIXTY, SIXTY_NINES, books_and_groves, lesser, stem

GREAT = 10 ** 3999


def one_less(ladder):
    """Ladders one number or one pair less than one that is not nought, and the first pairs of it."""
    exponent, many = ladder[-1]
    row = [ladder[:end] for end in range(len(ladder))]
    if many > 1:
        row.append(ladder[:-1] + ((exponent, many - 1),))
    return row


def goals_below(chance, ladder):
    """Ladders less than one that is not nought: near ones, such with lesser pairs behind, and others."""
    near = one_less(ladder)[-1]
    exponent = ladder[-1][0]
    row = one_less(ladder) + [lesser(chance, ladder) for turn in range(3)]
    for turn in range(3):
        if exponent:
            # What is less than the power of the last exponent leaves the whole below the ladder.
            row.append(both(near, lesser(chance, ((exponent, 1),))))
            row.append(both(near, ((lesser(chance, exponent), SIXTY_NINES),)))
    return row


class Reaches(unittest.TestCase):

    def reached(self, book, grove, goal):
        """The told fall can be done and reaches the goal; told is what stands behind it."""
        kept = copy.deepcopy((grove, goal))
        told = fall_to(book, grove, goal)
        self.assertIsInstance(told, tuple)
        place, rule, many = told
        left = fallen(book, grove, place, rule, many)[0]
        behind = rank(book, left)
        self.assertFalse(is_less(behind, goal), (grove, goal))
        self.assertTrue(is_less(behind, rank(book, grove)))
        self.assertEqual(fall_to(book, grove, goal), told)
        self.assertEqual((grove, goal), kept)
        return left

    def refused(self, error, book, grove, goal):
        with self.assertRaises(error, msg=(grove, goal)) as caught:
            fall_to(book, grove, goal)
        return caught.exception

    def test_some(self):
        book = read_book("a; b > - / a; c *; d * > b / 3 a, 2 b; e > 3 b / a > 2 b / -")
        for grove, goal in [
            ("a", "0"), ("5 a", "4"), ("5 a", "3"), ("a{a}", "1"), ("b", "0"), ("b", "7"), ("a, b", "z"), ("a, b", "9"),
            ("2 b", "z+99"), ("b{a}", "z"), ("b{b}", "z+5"), ("b{b}", "3"), ("a{b}", "12"), ("c{a}", "8"), ("c{2 a}", "z*4+7"),
            ("c{2 a}", "z*4"), ("c{b}", "z[9]*3+z[8]"), ("c{c{a}}", "z[5]*6"), ("c{c{c}}", "z[7]"), ("d", "z*8+9"), ("d", "0"),
            ("d{a}", "z[2]*7+z*5"), ("d{b}", "z[3]"), ("d{b}", "z[50]*2+1"), ("e", "z*3+50"), ("e", "z*2"), ("e{c{b}}", "z[44]"),
            ("c{2 a}, c{b}", "z[z]+z*77"), ("2 c{2 a}", "z[2]+z*3+1"), ("a, c{b}, d{a}", "z[z]+z[3]"), ("c{d{c{b}}}", "z[z[z[4]]]"),
        ]:
            self.reached(book, read_grove(grove), read_ladder(goal))

    def test_numbers_are_reckoned(self):
        book = read_book("a; b > - / a; c *; d > 2 b / b")
        for many in (SIXTY, SIXTY_NINES, GREAT):
            self.reached(book, read_grove("b"), number(many))
            self.reached(book, read_grove("c{a}"), number(many))
            self.reached(book, read_grove("c{2 a}"), ((number(1), many), ((), many)))
            self.reached(book, read_grove("c{b}"), ((number(many), many), (number(1), 1)))
            self.reached(book, read_grove("d"), ((number(1), many), ((), many)))
            self.reached(book, ((("b", ()), many),), ((number(1), many - 1), ((), many)))

    def test_many_books_and_groves(self):
        chance = random.Random(121)
        for book, grove in books_and_groves(121, 150, most=10, manys=(1, 2, SIXTY)):
            for goal in goals_below(chance, rank(book, grove)):
                self.reached(book, grove, goal)

    def test_groves_whose_rank_ends_with_no_number(self):
        chance = random.Random(122)
        said = 0
        for book, grove in books_and_groves(122, 700, most=4, manys=(1, 2, SIXTY)):
            ahead = rank(book, grove)
            if ahead[-1][0]:
                for goal in goals_below(chance, ahead):
                    self.reached(book, grove, goal)
                    said += fall_to(book, grove, goal)[2] > 0
        self.assertGreater(said, 500)

    def test_bare_trees_and_trees_within_trees_of_both_sorts(self):
        chance = random.Random(123)
        for marks in itertools.product(["", " *"], repeat=3):
            book = read_book("a{}; b{} > - / a; c{} > 2 b / b".format(*marks))
            for text in ["a", "b", "c", "2 c", "a{a}", "a{b}", "a{c}", "b{b{c}}", "c{c{c}}", "c{a{b}, b}", "3 b{2 a, c{c}}"]:
                for goal in goals_below(chance, rank(book, read_grove(text))):
                    self.reached(book, read_grove(text), goal)

    def test_deep_and_great_groves(self):
        chance = random.Random(124)
        book = read_book("a *; b > - / a; c * > - / b")
        chain = ()
        for level in range(12):
            chain = (((("abc"[level % 3], chain), 2)),)
        grove = tuple(sorted([((kind, stem(11)), SIXTY) for kind in "abc"] + [(("b", chain[0][0][1]), 3)]))
        for some in (stem(12), stem(60), chain, grove):
            for goal in goals_below(chance, rank(book, some)):
                self.reached(book, some, goal)
        for book, grove in books_and_groves(125, 10, most=60):
            for goal in goals_below(chance, rank(book, grove)):
                self.reached(book, grove, goal)

    def test_a_grove_that_the_program_told(self):
        book = read_book("a; b *; c > - / a")
        grove = tuple(((("b", ((("a", ()), many), (("c", ()), 3))), 4)) for many in range(1, 600))
        ahead = rank(book, grove)
        for goal in one_less(ahead)[-3:] + [(), ahead[:-1] + ((ahead[-1][0], 3), (number(5), GREAT))]:
            self.reached(book, grove, goal)

    def test_fall_after_fall(self):
        chance = random.Random(126)
        for book, grove in books_and_groves(126, 80, most=6):
            for turn in range(12):
                if grove:
                    grove = self.reached(book, grove, chance.choice(goals_below(chance, rank(book, grove))))

    def test_fall_after_fall_to_the_nearest(self):
        book = read_book("a; b > - / a; c *")
        grove = read_grove("b, c{a, b}")
        for turn in range(40):
            ahead = rank(book, grove)
            exponent = ahead[-1][0]
            # So many of the next power below, where there is one, stand behind what is one less.
            tail = ((one_less(exponent)[-1], 30),) if exponent else ()
            grove = self.reached(book, grove, both(one_less(ahead)[-1], tail))
        self.assertTrue(grove)

    def test_nought_is_reached_from_all_that_has_trees(self):
        for book, grove in books_and_groves(127, 100):
            self.reached(book, grove, ())

    def test_no_reach(self):
        chance = random.Random(128)
        for book, grove in books_and_groves(128, 100, manys=(1, 2, SIXTY)):
            ahead = rank(book, grove)
            for goal in [ahead, both(ahead, number(1)), both(ahead, ahead), ((ahead, 1),)]:
                self.refused(NoReach, book, grove, goal)
            for goal in goals_below(chance, ahead)[:1]:
                self.refused(NoReach, book, fallen(book, grove, *fall_to(book, grove, goal))[0], ahead)

    def test_no_reach_without_trees(self):
        book = read_book("a; b > b / -")
        for text in ["0", "1", "z", "z[z]+1"]:
            self.refused(NoReach, book, (), read_ladder(text))

    def test_no_kind_then_endless_then_no_reach(self):
        book = read_book("a; b > b / -; c > b / -; d > a / -")
        for text, error, kind in [
            ("z", NoKind, "z"), ("b, e, z", NoKind, "e"), ("b{z}, e", NoKind, "e"), ("c{e}, z", NoKind, "e"), ("a{z}", NoKind, "z"),
            ("b", Endless, "b"), ("c", Endless, "c"), ("b{c}", Endless, "b"), ("c{b}", Endless, "b"), ("a{d{c}}, d", Endless, "c"),
        ]:
            for goal in ["0", "1", "z[z[z]]"]:
                self.assertEqual(self.refused(error, book, read_grove(text), read_ladder(goal)).kind, kind)
        self.reached(book, read_grove("a, d"), read_ladder("2"))
        self.refused(NoReach, book, read_grove("a, d"), read_ladder("3"))
