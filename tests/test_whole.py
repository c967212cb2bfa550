"""What the document promises over the whole program, over many books."""

import random
import unittest

from felltimber.books import Book
from felltimber.booktexts import read_book, show_book
from felltimber.drops import fall_paper, is_drop
from felltimber.duels import Duel, outlasts
from felltimber.errors import Endless, FellError, NoKind, NoRise, NotEndless, TooLong
from felltimber.falls import choices, fallen
from felltimber.fates import endless_kinds, leads, way_round
from felltimber.fewests import fewest_falls, short_fall
from felltimber.grovetexts import read_grove, show_grove
from felltimber.ladders import is_less
from felltimber.laddertexts import read_ladder, show_ladder
from felltimber.mosts import long_fall, most_falls
from felltimber.orders import orders
from felltimber.places import tree_at
from felltimber.plays import Play
from felltimber.ranks import own_rank, rank
from felltimber.reaches import fall_to
from felltimber.rises import risen
from felltimber.rounds import endless_row
from felltimber.sorts import sort_needed, sort_of
from felltimber.sums import both
from felltimber.tables import is_table, table
from felltimber.trees import together
from felltimber.worths import fault, worth
from tests.makers import SIXTY, all_falls, books, books_and_groves, grove_on, lesser, places_with_trees, put_together


def answer_or_error(deed, *things):
    """What is told, or the class of the refusal and its kind."""
    try:
        return deed(*things)
    except FellError as refusal:
        return refusal.__class__, getattr(refusal, "kind", None)


class Renamed:
    """A book alike another one but for its names and their order."""

    def __init__(self, chance, book):
        names = book.names()
        fresh = chance.sample(["u", "v", "vv", "w", "x", "y", "yew", "zzzzzzzz"], len(names))
        self.names = dict(zip(names, fresh))
        kinds = [(self.names[name], book.spreads(name), [tuple(map(self.grove, rule)) for rule in book.rules(name)]) for name in names]
        chance.shuffle(kinds)
        self.book = Book(kinds)

    def grove(self, grove):
        return put_together([((self.names[kind], self.grove(held)), many) for (kind, held), many in grove])


class Whole(unittest.TestCase):

    def test_each_kind_has_an_own_rank_or_a_way_round_never_both(self):
        seen = [0, 0]
        for book in books(211, 150) + books(212, 250, ending=False):
            for name in book.names():
                told = way_round(book, name)
                self.assertEqual(told is not None, name in endless_kinds(book))
                seen[told is not None] += 1
                if told is None:
                    self.assertTrue(own_rank(book, name))
                    with self.assertRaises(NotEndless):
                        endless_row(book, name, 1)
                else:
                    self.assertEqual(len(endless_row(book, name, 2)), 2)
                    with self.assertRaises(Endless) as caught:
                        own_rank(book, name)
                    self.assertEqual(caught.exception.kind, name)
        self.assertGreater(min(seen), 300)

    def test_each_paper_is_let_by_its_reader(self):
        for book, grove in books_and_groves(213, 80, most=8, manys=(1, 2, SIXTY)):
            self.assertIs(is_table(book, grove, table(book, grove)), True)
            for place, rule in all_falls(book, grove):
                for number in (0, 3):
                    ahead, behind, drop = fall_paper(book, grove, place, rule, number)
                    self.assertIs(is_drop(ahead, behind, drop), True)
                    self.assertEqual(ahead, rank(book, grove))

    def test_a_fall_taken_back_leads_to_the_very_grove(self):
        for book, grove in books_and_groves(214, 100, ending=False, most=8, manys=(1, 2, SIXTY)):
            for place, rule in all_falls(book, grove):
                for number in (0, 1, SIXTY):
                    left, changed = fallen(book, grove, place, rule, number)
                    kind = tree_at(grove, place)[0]
                    self.assertEqual(risen(book, left, changed, kind, rule, number), (grove, place))

    def test_only_groves_from_which_a_fall_leads_here_are_told(self):
        told = 0
        for book, grove in books_and_groves(215, 60, ending=False, most=5):
            for place in [()] + [place for place, tree in places_with_trees(grove)]:
                for kind in book.names():
                    for rule in range(1 + len(book.rules(kind))):
                        for number in (0, 1):
                            try:
                                ahead, bare = risen(book, grove, place, kind, rule, number)
                            except NoRise:
                                continue
                            self.assertEqual(fallen(book, ahead, bare, rule, number), (grove, place))
                            told += 1
        self.assertGreater(told, 200)

    def test_two_groves_together(self):
        chance = random.Random(216)
        counted = 0
        for book, one in books_and_groves(216, 120, most=5):
            other = grove_on(chance, book.names(), 4)
            whole = together(one, other)
            self.assertEqual(rank(book, whole), both(rank(book, one), rank(book, other)))
            for bound, deed in [(0, most_falls), (1, most_falls), (0, fewest_falls), (2, fewest_falls), (SIXTY, fewest_falls)]:
                try:
                    told = deed(book, whole, bound)
                except TooLong:
                    continue
                self.assertEqual(told, deed(book, one, bound) + deed(book, other, bound))
                counted += 1
        self.assertGreater(counted, 200)

    def test_books_alike_but_for_their_names_and_their_order(self):
        chance = random.Random(217)
        for book, grove in books_and_groves(217, 60, most=6) + books_and_groves(218, 60, ending=False, most=6):
            other = Renamed(chance, book)
            self.assertEqual(endless_kinds(other.book), sorted(other.names[name] for name in endless_kinds(book)))
            for name in book.names():
                twin = other.names[name]
                self.assertEqual(leads(other.book, twin), sorted(other.names[kind] for kind in leads(book, name)))
                self.assertEqual(answer_or_error(own_rank, book, name)[:1], answer_or_error(own_rank, other.book, twin)[:1])
                if name not in endless_kinds(book):
                    self.assertEqual(own_rank(other.book, twin), own_rank(book, name))
            self.alike_groves(book, grove, other.book, other.grove(grove))

    def alike_groves(self, book, grove, other_book, other):
        self.assertEqual(orders(other), orders(grove))
        for bound in (0, 1, 3):
            for deed in (most_falls, fewest_falls):
                told = answer_or_error(deed, book, grove, bound)
                twin = answer_or_error(deed, other_book, other, bound)
                self.assertEqual(twin[0] if isinstance(twin, tuple) else twin, told[0] if isinstance(told, tuple) else told)
        if endless_kinds(book):
            self.assertEqual(answer_or_error(sort_needed, other_book)[0], Endless)
            return
        self.assertEqual(sort_needed(other_book)[0], sort_needed(book)[0])
        self.assertEqual(rank(other_book, other), rank(book, grove))
        self.assertEqual(table(other_book, other)[-1][2], table(book, grove)[-1][2])
        self.assertIs(outlasts(book, grove, other_book, other), False)
        behind = sorted(rank(book, fallen(book, grove, place, rule, 2)[0]) for place, rule in all_falls(book, grove))
        twins = sorted(rank(other_book, fallen(other_book, other, place, rule, 2)[0]) for place, rule in all_falls(other_book, other))
        self.assertEqual(sorted(set(behind)), sorted(set(twins)))

    def test_the_rank_is_the_least(self):
        chance = random.Random(219)
        for book, grove in books_and_groves(219, 60, most=6):
            own = {name: own_rank(book, name) for name in book.names()}
            self.assertIsNone(fault(book, own))
            self.assertEqual(worth(book, own, grove), rank(book, grove))
            goal = lesser(chance, rank(book, grove))
            place, rule, number = fall_to(book, grove, goal)
            self.assertFalse(is_less(rank(book, fallen(book, grove, place, rule, number)[0]), goal))

    def test_only_texts_that_are_shown_are_read(self):
        for book, grove in books_and_groves(220, 60):
            self.assertEqual(show_book(read_book(show_book(book))), show_book(book))
            self.assertEqual(read_grove(show_grove(grove)), grove)
            ladder = rank(book, grove)
            self.assertEqual(read_ladder(show_ladder(ladder)), ladder)
            self.assertEqual(sort_of(ladder), sort_of(read_ladder(show_ladder(ladder))))

    def test_no_kind_ahead_of_all_else(self):
        book = read_book("a > a / -; b")
        wrong = read_grove("a{z}, y")
        rows = [
            (fallen, book, wrong, (), None, None), (choices, book, wrong), (risen, book, wrong, (9,), "q", None, None), (Play, book, wrong), (rank, book, wrong),
            (table, book, wrong), (is_table, book, wrong, None), (worth, book, {}, wrong), (fall_paper, book, wrong, (), None, None), (fall_to, book, wrong, ()),
            (outlasts, book, wrong, book, read_grove("a")), (outlasts, book, read_grove("a"), book, wrong), (Duel, book, wrong, book, read_grove("a")),
            (Duel, book, read_grove("a"), book, wrong), (most_falls, book, wrong, 1), (long_fall, book, wrong, 1), (fewest_falls, book, wrong, 1),
            (short_fall, book, wrong, 1),
        ]
        for deed, *things in rows:
            self.assertEqual(answer_or_error(deed, *things), (NoKind, "y"), deed)
        for deed, *things in [(own_rank, book, "q"), (leads, book, "q"), (way_round, book, "q"), (endless_row, book, "q", 1), (book.rules, "q"), (book.spreads, "q")]:
            self.assertEqual(answer_or_error(deed, *things), (NoKind, "q"), deed)
