import itertools
import random
import unittest

from felltimber.books import Book
from felltimber.booktexts import read_book
from felltimber.drops import drop, fall_paper, is_drop
from felltimber.errors import Endless, NoDrop, NoKind, NoNumber, NoPlace, NoRule, TooGreat
from felltimber.falls import fallen
from felltimber.grovetexts import read_grove
from felltimber.ladders import is_less
from felltimber.laddertexts import read_ladder
from felltimber.ranks import rank
from tests.makers import SIXTY, all_falls, books_and_groves, ladders, lesser, odd_things, stem, tower

PAIRS = [
    ("1", "0", ("end", 0)), ("z+1", "z", ("end", 1)), ("z[2]+z*3+5", "z[2]", ("end", 1)), ("z[2]+z*3+5", "z[2]+z*3", ("end", 2)),
    ("z[z]", "0", ("end", 0)), ("2", "1", ("many", 0)), ("z*5", "z*3+7", ("many", 0)), ("z[2]+z*5+1", "z[2]+z*4+9", ("many", 1)),
    ("z[2]+z+9", "z[2]+z+8", ("many", 2)), ("z", "5", ("exponent", 0, ("end", 0))), ("z[2]", "z*9+3", ("exponent", 0, ("many", 0))),
    ("z[z]", "z[2]", ("exponent", 0, ("exponent", 0, ("end", 0)))), ("z[2]+z", "z[2]+9", ("exponent", 1, ("end", 0))),
    ("z[z+1]*3+z*2+5", "z[z]*9", ("exponent", 0, ("end", 1))), ("z[z*2]+1", "z[z+8]+z", ("exponent", 0, ("many", 0))),
    ("z[z[z[2]]]", "z[z[z]]", ("exponent", 0, ("exponent", 0, ("exponent", 0, ("many", 0))))),
]


def plain_drop(one, other):
    """The drop by the document's words; the other is less."""
    alike = 0
    while alike < len(other) and one[alike] == other[alike]:
        alike += 1
    if alike == len(other):
        return ("end", alike)
    if one[alike][0] == other[alike][0]:
        return ("many", alike)
    return ("exponent", alike, plain_drop(one[alike][0], other[alike][0]))


def spoiled_drops(told):
    """Things near a drop that are not that drop."""
    word, at = told[:2]
    tail = told[2:]
    for other in ["end", "many", "exponent", "End", "", None, 0, b"end", ("end",), [word]]:
        if other != word:
            yield (other, at) + tail
    for other in [at + 1, at - 1, -1, at + SIXTY, str(at), None, (at,), [at], True, False, 10 ** 3999]:
        if other is True or other is False or other != at:
            yield (word, other) + tail
    yield list(told)
    yield told + (0,)
    yield told + (None,)
    yield told + (told,)
    yield told[:-1]
    yield (told,)
    yield (at, word) + tail
    yield told[1:]
    if tail:
        yield ("exponent", at, list(tail[0]))
        for near in spoiled_drops(tail[0]):
            yield ("exponent", at, near)


class Drops(unittest.TestCase):

    def pairs(self):
        chance = random.Random(101)
        row = [read_ladder(text) for pair in PAIRS for text in pair[:2]] + ladders(102, 30, 4) + [tower(12)]
        return [(one, lesser(chance, one)) for one in row if one for turn in range(3)] + list(itertools.product(row, row))

    def test_some(self):
        for one, other, wanted in PAIRS:
            self.assertEqual(drop(read_ladder(one), read_ladder(other)), wanted)

    def test_deep_within_exponents(self):
        for levels in range(1, 61):
            told = drop(tower(levels), tower(levels - 1))
            for turn in range(levels - 1):
                self.assertEqual(told[:2], ("exponent", 0))
                told = told[2]
            self.assertEqual(told, ("end", 0))
            self.assertTrue(is_drop(tower(levels), tower(levels - 1), drop(tower(levels), tower(levels - 1))))

    def test_by_the_words_of_the_document(self):
        for one, other in self.pairs():
            if is_less(other, one):
                told = drop(one, other)
                self.assertIsInstance(told, tuple)
                self.assertEqual(told, plain_drop(one, other))
                self.assertIs(is_drop(one, other, told), True)
                self.assertIs(is_drop(other, one, told), False)

    def test_no_drop_where_the_other_is_not_less(self):
        for one, other in self.pairs():
            if not is_less(other, one):
                with self.assertRaises(NoDrop):
                    drop(one, other)
        for ladder in [(), read_ladder("5"), read_ladder("z[z]+1")]:
            with self.assertRaises(NoDrop):
                drop(ladder, ladder)

    def test_nothing_is_a_drop_where_the_other_is_not_less(self):
        things = [("end", 0), ("many", 0), ("exponent", 0, ("end", 0)), (), None, ("end", 1), ("exponent", 0, ("many", 0))]
        for one, other in self.pairs():
            if not is_less(other, one):
                for thing in things:
                    self.assertIs(is_drop(one, other, thing), False)

    def test_all_else_is_none(self):
        for one, other, told in PAIRS:
            one, other = read_ladder(one), read_ladder(other)
            self.assertIs(is_drop(one, other, told), True)
            for thing in list(spoiled_drops(told)) + odd_things() + [0, 1, True, False, (), [], ((),), (1,), ("end",), "end"]:
                self.assertIs(is_drop(one, other, thing), False, thing)

    def test_truths_in_the_place_of_numbers(self):
        one, other = read_ladder("z+1"), read_ladder("z")
        self.assertIs(is_drop(one, other, ("end", 1)), True)
        self.assertIs(is_drop(one, other, ("end", True)), False)
        one, other = read_ladder("z"), read_ladder("5")
        self.assertIs(is_drop(one, other, ("exponent", False, ("end", 0))), False)
        self.assertIs(is_drop(one, other, ("exponent", 0, ("end", False))), False)

    def test_deep_things(self):
        thing = ("end", 0)
        for turn in range(12):
            thing = ("exponent", 0, thing)
            self.assertIs(is_drop(read_ladder("z"), (), thing), False)


class Papers(unittest.TestCase):

    def test_a_paper(self):
        book = read_book("a; b > - / a; c *")
        told = fall_paper(book, read_grove("c{b}"), (0, 0), 1, 3)
        self.assertEqual(told, (read_ladder("z[z]"), read_ladder("z[3]*4"), ("exponent", 0, ("exponent", 0, ("end", 0)))))
        self.assertEqual(fall_paper(book, read_grove("3 a"), (0,), 0, 9), (read_ladder("3"), read_ladder("2"), ("many", 0)))
        self.assertEqual(fall_paper(book, read_grove("a, b"), (0,), 0, 9), (read_ladder("z+1"), read_ladder("z"), ("end", 1)))

    def test_many(self):
        for book, grove in books_and_groves(111, 120, most=12, manys=(1, 2, SIXTY)):
            for place, rule in all_falls(book, grove):
                for number in (0, 1, SIXTY):
                    told = fall_paper(book, grove, place, rule, number)
                    self.assertIsInstance(told, tuple)
                    ahead, later, drop_told = told
                    self.assertEqual(ahead, rank(book, grove))
                    self.assertEqual(later, rank(book, fallen(book, grove, place, rule, number)[0]))
                    self.assertIs(is_drop(ahead, later, drop_told), True)

    def refused(self, error, book, *row):
        with self.assertRaises(error, msg=row) as caught:
            fall_paper(book, *row)
        return caught.exception

    def test_endless(self):
        book = read_book("a; b > b / -; c > b / -; d > a / -")
        for text, kind in [("b", "b"), ("c", "c"), ("a, b{c}", "b"), ("a, c{b}", "b"), ("a{d}, d{c{a}}", "c")]:
            grove = read_grove(text)
            for place, rule in all_falls(book, grove):
                self.assertEqual(self.refused(Endless, book, grove, place, rule, 0).kind, kind)
        self.assertEqual(fall_paper(book, read_grove("d"), (0,), 1, 0), (read_ladder("2"), read_ladder("1"), ("many", 0)))

    def test_refused_as_fallen_is_and_then_with_endless(self):
        order = [NoKind, NoPlace, NoRule, NoNumber, TooGreat, Endless]
        for faults in itertools.product([False, True], repeat=6):
            kind, spot, rule, number, great, endless = faults
            rows = [("b", False, [(((("b", ()), 1),), ())] if endless else [])]
            rows.append(("a", False, [(((("b", ((("b", ()), 1),)), 1),), ())]))
            grove = stem(60) + (((("b", ()), 1),)) + (((("z", ()), 1),) if kind else ())
            place = (0,) * (59 if spot else 60)
            row = (grove, place, 2 if rule else int(great), True if number else 0)
            due = [error for error, fault in zip(order, faults) if fault]
            if due:
                told = self.refused(due[0], Book(rows), *row)
                if due[0] == Endless:
                    self.assertEqual(told.kind, "a")
            else:
                self.assertEqual(fall_paper(Book(rows), *row)[0], rank(Book(rows), grove))
