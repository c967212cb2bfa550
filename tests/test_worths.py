import copy
import random
import unittest

from felltimber.booktexts import read_book
from felltimber.climbs import above, spread
from felltimber.errors import NoKind, NoWorths
from felltimber.falls import fallen
from felltimber.grovetexts import read_grove
from felltimber.ladders import is_less, number
from felltimber.laddertexts import read_ladder, show_ladder
from felltimber.ranks import own_rank, rank
from felltimber.sums import behind, both, many_of
from felltimber.worths import fault, worth
from tests.makers import SIXTY, all_falls, books, books_and_groves, kinds_of, lesser, odd_things, random_ladder

GREAT = 10 ** 80
BOOK = read_book("a; b > - / a > 2 a / -; c * > b / -")
RIGHT = {"a": number(1), "b": read_ladder("z"), "c": read_ladder("z+1")}


def read_worths(text):
    """Worths by a text such as "a=1 b=z"."""
    return {piece.split("=")[0]: read_ladder(piece.split("=")[1]) for piece in text.split(" ")}


def plain_worth(book, worths, grove):
    told = ()
    for (kind, held), many in grove:
        deed = spread if book.spreads(kind) else behind
        told = both(told, many_of(deed(worths[kind], plain_worth(book, worths, held)), many))
    return told


def plain_fault(book, worths):
    for name in book.names():
        for at, (once, each) in enumerate(book.rules(name)):
            if is_less(worths[name], above(plain_worth(book, worths, once), plain_worth(book, worths, each))):
                return name, at + 1
    return None


def own_worths(book):
    return {name: own_rank(book, name) for name in book.names()}


def random_worths(chance, book):
    row = {}
    while len(row) < len(book.names()):
        ladder = random_ladder(chance, 3, 2)
        if ladder:
            row[book.names()[len(row)]] = ladder
    return row


def in_order(book):
    """The kinds of a book that ends, each behind those to which it leads."""
    order = []
    while len(order) < len(book.names()):
        for name in book.names():
            led = [kind for once, each in book.rules(name) for kind in kinds_of(once) + kinds_of(each)]
            if name not in order and all(kind in order for kind in led):
                order.append(name)
    return order


def right_worths(chance, book):
    """Worths by which no rule is at fault, some of them greater than the own ranks."""
    row = {}
    for name in in_order(book):
        climbs = [above(plain_worth(book, row, once), plain_worth(book, row, each)) for once, each in book.rules(name)]
        least = max(climbs + [number(1)])
        row[name] = both(least, random_ladder(chance, 2, 2)) if chance.random() < 0.5 else least
    return row


class Worths(unittest.TestCase):

    def told(self, worths, grove, wanted):
        self.assertEqual(show_ladder(worth(BOOK, read_worths(worths), read_grove(grove))), wanted)

    def test_some(self):
        self.told("a=1 b=z c=z+1", "-", "0")
        self.told("a=1 b=z c=z+1", "3 a, b", "z+3")
        self.told("a=5 b=2 c=z", "3 a, b", "17")
        self.told("a=5 b=2 c=z", "2 a{b}", "14")
        self.told("a=5 b=2 c=z", "c{a}", "z[6]")
        self.told("a=z[2] b=2 c=3", "b{a}, c, c{a{b}}", "z[z[2]+2]+z[2]+3")

    def test_by_own_ranks_it_is_the_rank(self):
        for book, grove in books_and_groves(91, 100):
            self.assertEqual(worth(book, own_worths(book), grove), rank(book, grove))

    def test_many(self):
        chance = random.Random(92)
        for book, grove in books_and_groves(92, 150, ending=False):
            worths = random_worths(chance, book)
            kept = copy.deepcopy(worths)
            self.assertEqual(worth(book, worths, grove), plain_worth(book, worths, grove))
            self.assertEqual(worths, kept)

    def test_no_kind_ahead_of_no_worths(self):
        for text, kind in [("z", "z"), ("b{z}, e", "e"), ("b{e}, z", "e")]:
            for worths in (RIGHT, {}, {"a": None}):
                with self.assertRaises(NoKind) as caught:
                    worth(BOOK, worths, read_grove(text))
                self.assertEqual(caught.exception.kind, kind)


class Faults(unittest.TestCase):

    def told(self, worths, wanted):
        self.assertEqual(fault(BOOK, read_worths(worths)), wanted)

    def test_none(self):
        self.told("a=1 b=z c=z+1", None)
        self.told("a=1 b=z c=z+2", None)
        self.told("a=7 b=z c=z+1", None)
        self.told("a=z b=z[2] c=z[z]", None)
        self.assertIsNone(fault(read_book("a *; b > - / -"), read_worths("a=1 b=1")))

    def test_the_first(self):
        self.told("a=1 b=1 c=1", ("b", 1))
        self.told("a=1 b=900 c=1", ("b", 1))
        self.told("a=1 b=z c=z", ("c", 1))
        self.told("a=1 b=z*2 c=z+1", ("c", 1))
        self.told("a=z b=z[2] c=1", ("c", 1))
        self.told("a=z b=z c=z", ("b", 1))
        book = read_book("c > a / - > b / -; a; b > a / - > - / -; d > c / -")
        for worths, wanted in [
            ("a=1 b=2 c=3 d=4", None), ("a=1 b=2 c=3 d=3", ("d", 1)), ("a=1 b=2 c=2 d=1", ("c", 2)), ("a=1 b=1 c=1 d=1", ("c", 1)),
            ("a=1 b=1 c=9 d=1", ("b", 1)), ("a=2 b=3 c=3 d=9", ("c", 2)), ("a=3 b=9 c=3 d=9", ("c", 1)),
        ]:
            self.assertEqual(fault(book, read_worths(worths)), wanted)

    def test_by_own_ranks_none_is(self):
        for book in books(93, 150):
            self.assertIsNone(fault(book, own_worths(book)))

    def test_by_lesser_ones_some_rule_is(self):
        chance = random.Random(94)
        for book in books(94, 150):
            for name in book.names():
                low = lesser(chance, own_rank(book, name))
                if low:
                    worths = dict(own_worths(book))
                    worths[name] = low
                    told = fault(book, worths)
                    self.assertIsNotNone(told)
                    self.assertEqual(told, plain_fault(book, worths))

    def test_endless_books_are_always_at_fault(self):
        chance = random.Random(95)
        book = read_book("a > b / -; b > a / -")
        for turn in range(30):
            self.assertIsNotNone(fault(book, random_worths(chance, book)))
        self.assertEqual(fault(read_book("a > a / -"), read_worths("a=z")), ("a", 1))

    def test_many(self):
        chance = random.Random(96)
        for book in books(96, 200) + books(97, 200, ending=False):
            worths = random_worths(chance, book)
            kept = copy.deepcopy(worths)
            self.assertEqual(fault(book, worths), plain_fault(book, worths))
            self.assertEqual(worths, kept)

    def test_right_worths_are_no_less_than_the_own_ranks_and_each_fall_lowers_them(self):
        chance = random.Random(98)
        for book, grove in books_and_groves(98, 120, most=10, manys=(1, 2, SIXTY)):
            worths = right_worths(chance, book)
            self.assertIsNone(fault(book, worths))
            for name in book.names():
                self.assertFalse(is_less(worths[name], own_rank(book, name)))
            ahead = worth(book, worths, grove)
            for place, rule in all_falls(book, grove):
                for said in (0, 1, SIXTY):
                    self.assertTrue(is_less(worth(book, worths, fallen(book, grove, place, rule, said)[0]), ahead))

    def test_by_a_rule_at_fault_some_fall_does_not_lower_the_worth(self):
        chance = random.Random(99)
        found = 0
        for book in books(99, 150) + books(100, 100, ending=False):
            worths = random_worths(chance, book)
            told = fault(book, worths)
            if told is not None:
                found += 1
                bare = (((told[0], ()), 1),)
                left = fallen(book, bare, (0,), told[1], GREAT)[0]
                self.assertFalse(is_less(worth(book, worths, left), worths[told[0]]))
        self.assertGreater(found, 50)


class Refusals(unittest.TestCase):

    def refused(self, worths):
        length = len(worths)
        with self.assertRaises(NoWorths):
            worth(BOOK, worths, read_grove("a"))
        with self.assertRaises(NoWorths):
            worth(BOOK, worths, ())
        with self.assertRaises(NoWorths):
            fault(BOOK, worths)
        self.assertEqual(len(worths), length)

    def changed(self, key, value):
        row = dict(RIGHT)
        row[key] = value
        return row

    def without(self, key):
        return {name: ladder for name, ladder in RIGHT.items() if name != key}

    def test_kinds_missing_or_too_many(self):
        self.refused({})
        for name in RIGHT:
            self.refused(self.without(name))
            self.refused({name: RIGHT[name]})
        for name in ["d", "", "A", "aa", "a ", "abcdefghi"]:
            self.refused(self.changed(name, number(1)))
            row = self.without("a")
            row[name] = number(1)
            self.refused(row)

    def test_keys_of_any_kind(self):
        for key in [None, 1, 0, True, b"a", ("a",), (), frozenset(["a"]), -1, 10 ** 60, len, object()]:
            self.refused(self.changed(key, number(1)))
            for name in RIGHT:
                row = self.without(name)
                row[key] = RIGHT[name]
                self.refused(row)
            self.refused({key: number(1)})

    def test_nought_and_things_that_are_no_ladders(self):
        things = odd_things() + [(), 0, 1, True, False, [], [((), 1)], (((), 0),), (((), True),), (((), -1),), ([(), 1],), (1,)]
        for thing in things + [(((), 1), ((), 1)), (((), 1), (number(1), 1)), ((((), 1),),), ((), 1), ("a", ())]:
            for name in RIGHT:
                self.refused(self.changed(name, thing))

    def test_changes_behind_the_call(self):
        row = dict(RIGHT)
        told = worth(BOOK, row, read_grove("c{b}"))
        row.clear()
        self.assertEqual(told, worth(BOOK, RIGHT, read_grove("c{b}")))
