import random
import unittest
from unittest import mock

from felltimber import ranks
from felltimber.booktexts import read_book
from felltimber.climbs import above, spread
from felltimber.errors import Endless, NoKind
from felltimber.falls import fallen
from felltimber.fates import endless_kinds
from felltimber.grovetexts import read_grove
from felltimber.ladders import is_ladder, is_less, parts
from felltimber.laddertexts import read_ladder, show_ladder
from felltimber.ranks import own_rank, rank
from felltimber.sums import behind, both, many_of
from tests.makers import SIXTY, all_falls, all_rules, books, books_and_groves, kinds_of, lesser, stem

GREAT = 10 ** 80
# The longest own rank that a long search of books of eight kinds brought up is the one of the last kind here.
LONG = (
    "a *; b * > 2 a{2 a{2 a}} / 2 a; c * > b{2 b, b{b}} / -; d * > c{b, c} / c; e * > c{c, d}, d / -; "
    "f * > e{2 e, 2 e{2 e}} / -; g * > a{2 e, 2 f} / 2 f; h > g, g{f, 2 g} / -"
)


def plain_rank(book, grove):
    """The rank by the document's words, worked out anew for each tree."""
    told = ()
    for (kind, held), many in grove:
        own = max(above(plain_rank(book, once), plain_rank(book, each)) for once, each in all_rules(book, kind))
        deed = spread if book.spreads(kind) else behind
        told = both(told, many_of(deed(own, plain_rank(book, held)), many))
    return told


class OwnRanks(unittest.TestCase):

    def told(self, text, name, wanted):
        self.assertEqual(show_ladder(own_rank(read_book(text), name)), wanted, text)

    def test_without_rules(self):
        self.told("a", "a", "1")
        self.told("a *", "a", "1")
        self.told("a > - / -", "a", "1")
        self.told("a; b > a / -", "a", "1")

    def test_with_a_rule(self):
        self.told("a; b > a / -", "b", "2")
        self.told("a; b > 9 a / -", "b", "10")
        self.told("a; b > - / a", "b", "z")
        self.told("a; b > 9 a / a", "b", "z")
        self.told("a; b > - / a; c > b / -", "c", "z+1")
        self.told("a; b > - / a; c > 3 b / 2 a", "c", "z*4")
        self.told("a; b > - / a; c > 3 b / b", "c", "z[2]")
        self.told("a > b / -; b > c{c} / -; c", "a", "4")
        self.told("a * > b / -; b > c{c} / -; c", "a", "4")
        self.told("a; b > a{a} / -", "b", "3")
        self.told("a *; b > a{a} / -", "b", "z+1")
        self.told("a *; b > a{a{a}} / -", "b", "z[z]+1")
        self.told("a *; b > - / a{a{a}}", "b", "z[z+1]")

    def test_the_greatest_of_several_rules(self):
        self.told("a; b > - / a > a / - > 5 a / -", "b", "z")
        self.told("a; b > a / - > - / a > 5 a / -", "b", "z")
        self.told("a; b > 5 a / - > a / - > 3 a / -", "b", "6")
        self.told("a; b > a / - > 3 a / - > 5 a / -", "b", "6")
        self.told("a; b > - / a; c > b / - > - / b > 4 b / a > - / -", "c", "z[2]")

    def test_of_a_kind_beside_endless_ones(self):
        self.told("a > a / -; b > c / -; c", "b", "2")

    def test_many_books(self):
        for book in books(81, 200) + books(82, 200, ending=False):
            endless = endless_kinds(book)
            for name in book.names():
                if name in endless:
                    with self.assertRaises(Endless) as caught:
                        own_rank(book, name)
                    self.assertEqual(caught.exception.kind, name)
                else:
                    told = own_rank(book, name)
                    self.assertTrue(is_ladder(told))
                    self.assertEqual(told, plain_rank(book, (((name, ()), 1),)))

    def test_no_kind(self):
        book = read_book("a > a / -; b")
        for name in ["", " ", "z", "A", "aa", "abcdefghi", "b "]:
            with self.assertRaises(NoKind) as caught:
                own_rank(book, name)
            self.assertEqual(caught.exception.kind, name)

    def test_long_ones_are_worked_out_once(self):
        book = read_book(LONG)
        told = [own_rank(book, name) for name in book.names()]
        self.assertGreater(sum(parts(ladder) for ladder in told), 1400)
        self.assertEqual(parts(told[-1]), 963)
        rules = sum(len(all_rules(book, name)) for name in book.names())
        grove = read_grove("2 a{2 h, h{g}}, f, g{f{e{d{c{b{a}}}}}}, 3 h{h{h}}")
        for deed in (lambda: own_rank(book, "h"), lambda: rank(book, grove), lambda: rank(book, stem(60))):
            with mock.patch.object(ranks, "above", side_effect=above) as counted:
                self.assertTrue(is_ladder(deed()))
            self.assertLessEqual(counted.call_count, rules)

    def test_long_chains_of_rules(self):
        rules = " > {0}{{{0}}}, {0}{{2 {0}}} / - > {0} / {0}{{{0}}} > {0}{{{0}{{{0}}}}} / {0} > - / {0}{{{0}}}, {0}{{2 {0}}}"
        names = "abcdefgh"
        kinds = ["a *"] + [name + " *" + rules.format(ahead) for ahead, name in zip(names, names[1:])]
        book = read_book("; ".join(kinds))
        row = [own_rank(book, name) for name in names]
        for low, high in zip(row, row[1:]):
            self.assertTrue(is_less(low, high))


class Ranks(unittest.TestCase):

    def told(self, book, grove, wanted):
        self.assertEqual(show_ladder(rank(read_book(book), read_grove(grove))), wanted, grove)

    def test_some(self):
        book = "a; b > - / a; c *; d * > - / b"
        self.told(book, "-", "0")
        self.told(book, "a", "1")
        self.told(book, "5 a", "5")
        self.told(book, "5 a, 2 b", "z*2+5")
        self.told(book, "a{a}", "2")
        self.told(book, "a{3 a{2 a}}", "10")
        self.told(book, "a{b}", "z")
        self.told(book, "b{a}", "z+1")
        self.told(book, "b{b}", "z*2")
        self.told(book, "a{b}, 3 b{a}", "z*4+3")
        self.told(book, "c", "1")
        self.told(book, "c{a}", "z")
        self.told(book, "c{3 a}", "z[3]")
        self.told(book, "2 c{b}", "z[z]*2")
        self.told(book, "c{c{c}}", "z[z]")
        self.told(book, "c{d}", "z[z[2]]")
        self.told(book, "d{a}", "z[3]")
        self.told(book, "d{b}", "z[z]")
        self.told(book, "a, 7 d, d{a, 2 c{a}}", "z[z*2+1]+z[2]*7+1")
        self.told(book, f"{SIXTY} c{{{SIXTY} a}}", f"z[{SIXTY}]*{SIXTY}")

    def test_many_books_and_groves(self):
        for book, grove in books_and_groves(83, 200, most=15):
            told = rank(book, grove)
            self.assertTrue(is_ladder(told))
            self.assertEqual(told, plain_rank(book, grove))

    def test_no_kind_and_endless(self):
        book = read_book("a; b > b / -; c > b / -; d > a / -")
        for text, error, kind in [
            ("z", NoKind, "z"), ("b, e, z", NoKind, "e"), ("b{e}, z", NoKind, "e"), ("c, e{b}", NoKind, "e"),
            ("b", Endless, "b"), ("c", Endless, "c"), ("b{c}", Endless, "b"), ("c{b}", Endless, "b"), ("a{d{c}}", Endless, "c"),
            ("b{c}, c", Endless, "b"), ("a{c}, d{b}", Endless, "b"),
        ]:
            with self.assertRaises(error) as caught:
                rank(book, read_grove(text))
            self.assertEqual(caught.exception.kind, kind)
        self.assertEqual(rank(book, ()), ())
        self.assertEqual(show_ladder(rank(book, read_grove("a, d"))), "3")

    def test_endless_for_many(self):
        refused = 0
        for book, grove in books_and_groves(84, 200, ending=False, most=5):
            endless = [kind for kind in kinds_of(grove) if kind in endless_kinds(book)]
            if endless:
                refused += 1
                with self.assertRaises(Endless) as caught:
                    rank(book, grove)
                self.assertEqual(caught.exception.kind, endless[0])
            else:
                self.assertEqual(rank(book, grove), plain_rank(book, grove))
        self.assertGreater(refused, 50)

    def test_each_fall_lowers_the_rank_whatever_is_said(self):
        for book, grove in books_and_groves(85, 120, most=12, manys=(1, 2, SIXTY)):
            ahead = rank(book, grove)
            for place, rule in all_falls(book, grove):
                for number in (0, 1, 2, SIXTY, GREAT):
                    self.assertTrue(is_less(rank(book, fallen(book, grove, place, rule, number)[0]), ahead))

    def test_to_each_lesser_ladder_some_fall_reaches(self):
        chance = random.Random(86)
        for book, grove in books_and_groves(86, 150, most=8):
            ahead = rank(book, grove)
            if not ahead:
                continue
            reached = max(rank(book, fallen(book, grove, place, rule, GREAT)[0]) for place, rule in all_falls(book, grove))
            for turn in range(10):
                self.assertFalse(is_less(reached, lesser(chance, ahead)))

    def test_rows_of_falls_end(self):
        chance = random.Random(87)
        book = read_book("a; b > a / a; c * > b / -; d > - / -")
        for first in ["c{b}", "c{c{d}}", "b{c, d}"]:
            grove = read_grove(first)
            while grove:
                ahead = rank(book, grove)
                place, rule = chance.choice(all_falls(book, grove))
                grove = fallen(book, grove, place, rule, chance.choice([0, 1, 2]))[0]
                self.assertTrue(is_less(rank(book, grove), ahead))

    def test_great_groves_that_the_program_told(self):
        book = read_book("a; b *; c > - / a")
        grove = tuple(((("b", ((("a", ()), many), (("c", ()), 3))), 4)) for many in range(1, 667))
        told = rank(book, grove)
        self.assertEqual(told, tuple((read_ladder(f"z*3+{many}"), 4) for many in range(666, 0, -1)))
        deep_one = read_book("a *")
        told = rank(deep_one, stem(60))
        self.assertTrue(is_ladder(told))
        self.assertEqual(parts(told), 60)
