import itertools
import random
import unittest

from felltimber.books import Book
from felltimber.booktexts import read_book
from felltimber.duels import Duel, outlasts
from felltimber.errors import Endless, FellError, NoKind, NoNumber, NoPlace, NoRule, TooGreat
from felltimber.falls import fallen
from felltimber.grovetexts import read_grove
from felltimber.ladders import is_less
from felltimber.ranks import rank
from felltimber.trees import parts_of
from tests.makers import SIXTY, all_falls, books_and_groves, odd_things

BOOK = read_book("a; b > - / a; c *")
OTHER = read_book("a > - / b; b; c * > a / -")
ENDING = read_book("a; b > b / -; c > b / -; d > a / -")


class Outlasts(unittest.TestCase):

    def told(self, one, other, wanted, other_book=BOOK):
        self.assertIs(outlasts(BOOK, read_grove(one), other_book, read_grove(other)), wanted, (one, other))

    def test_some(self):
        for one, other, wanted in [
            ("-", "-", False), ("a", "-", True), ("-", "a", False), ("a", "a", False), ("2 a", "a", True), ("a", "2 a", False),
            ("b", f"{SIXTY} a", True), (f"{SIXTY} a", "b", False), ("c{a}", "b", False), ("b", "c{a}", False),
            ("c{2 a}", f"{SIXTY} b", True), ("c{b}", f"{SIXTY} c{{{SIXTY} a}}", True), ("a{a}", "2 a", False), ("c{c}", "b, a{a}", False),
        ]:
            self.told(one, ", ".join(sorted(other.split(", "))), wanted)

    def test_with_another_book_of_the_same_names(self):
        self.told("a", "a", False, OTHER)
        self.told("b", "a", False, OTHER)
        self.told("b", "b", True, OTHER)
        self.told("a, b", "a", True, OTHER)
        self.told("c{b}", "c", True, OTHER)
        self.told("b", "c", False, OTHER)
        self.assertIs(outlasts(OTHER, read_grove("a"), BOOK, read_grove("a")), True)
        self.assertIs(outlasts(OTHER, read_grove("c"), BOOK, read_grove("b")), True)

    def test_just_where_the_rank_is_greater(self):
        pairs = books_and_groves(131, 60, most=6) + books_and_groves(132, 30, most=2)
        for (book, grove), (other_book, other) in itertools.product(pairs, pairs[::7]):
            wanted = is_less(rank(other_book, other), rank(book, grove))
            self.assertIs(outlasts(book, grove, other_book, other), wanted)
        for book, grove in pairs:
            self.assertIs(outlasts(book, grove, book, grove), False)
            self.assertIs(outlasts(book, grove, book, ()), True)
            self.assertIs(outlasts(book, (), book, grove), False)

    def test_by_trying_all_falls(self):
        book = read_book("a; b > 2 a / - > a{a} / -; c > b / a")

        def can(mine, his):
            """Whether the hand whose turn it is can outlast the other, by trying falls up to 3 said."""
            for place, rule in all_falls(book, mine):
                for number in range(4):
                    if not can(his, fallen(book, mine, place, rule, number)[0]):
                        return True
            return False

        groves = [read_grove(text) for text in ["-", "a", "2 a", "3 a", "a{a}", "b", "a{2 a}"]]
        for one, other in itertools.product(groves, groves):
            self.assertIs(outlasts(book, one, book, other), can(one, other))


class Refusals(unittest.TestCase):

    def test_order(self):
        for deed in (outlasts, Duel):
            for one, other, error, kind in [
                ("z", "y", NoKind, "z"), ("y, z", "x", NoKind, "y"), ("a", "y, z{x}", NoKind, "x"), ("b", "z", NoKind, "z"),
                ("b{z}", "c", NoKind, "z"), ("-", "z", NoKind, "z"), ("z", "-", NoKind, "z"), ("b", "c", Endless, "b"),
                ("c", "b", Endless, "c"), ("c{b}", "b", Endless, "b"), ("a{d}", "d{c{b}}", Endless, "b"), ("-", "c", Endless, "c"),
                ("c", "-", Endless, "c"), ("a, d", "a{c}", Endless, "c"),
            ]:
                with self.assertRaises(error, msg=(one, other)) as caught:
                    deed(ENDING, read_grove(one), ENDING, read_grove(other))
                self.assertEqual(caught.exception.kind, kind)

    def test_each_by_its_own_book(self):
        for deed in (outlasts, Duel):
            with self.assertRaises(Endless) as caught:
                deed(BOOK, read_grove("b"), ENDING, read_grove("b"))
            self.assertEqual(caught.exception.kind, "b")
            with self.assertRaises(NoKind) as caught:
                deed(ENDING, read_grove("b"), BOOK, read_grove("d"))
            self.assertEqual(caught.exception.kind, "d")
            deed(BOOK, read_grove("b"), ENDING, read_grove("d"))


class Duels(unittest.TestCase):

    def stands(self, duel, turn, one, other, outlasted):
        self.assertEqual(duel.turn(), turn)
        self.assertEqual(duel.groves(), (read_grove(one), read_grove(other)))
        self.assertIsInstance(duel.groves(), tuple)
        self.assertEqual(duel.outlasted(), outlasted)

    def refused(self, error, duel, *fall):
        ahead = (duel.turn(), duel.groves(), duel.outlasted(), duel.answer())
        with self.assertRaises(error, msg=fall):
            duel.fall(*fall)
        self.assertEqual((duel.turn(), duel.groves(), duel.outlasted(), duel.answer()), ahead)

    def test_by_turns(self):
        duel = Duel(BOOK, read_grove("a, b"), OTHER, read_grove("c"))
        self.stands(duel, 0, "a, b", "c", None)
        self.assertIsNone(duel.fall((1,), 1, 2))
        self.stands(duel, 1, "3 a", "c", None)
        self.assertIsNone(duel.fall((0,), 1, 0))
        self.stands(duel, 0, "3 a", "a", None)
        duel.fall((0,), 0, 9)
        self.stands(duel, 1, "2 a", "a", None)
        duel.fall((0,), 1, 1)
        self.stands(duel, 0, "2 a", "b", None)
        duel.fall((0,), 0, 0)
        duel.fall((0,), 0, 0)
        self.stands(duel, 0, "a", "-", None)
        duel.fall((0,), 0, 0)
        self.stands(duel, 1, "-", "-", 1)
        self.assertIsNone(duel.answer())

    def test_outlasted_at_first(self):
        for one, other, wanted in [("-", "-", 0), ("-", "a", 0), ("a", "-", None)]:
            duel = Duel(BOOK, read_grove(one), BOOK, read_grove(other))
            self.stands(duel, 0, one, other, wanted)
        duel.fall((0,), 0, 0)
        self.stands(duel, 1, "-", "-", 1)

    def test_each_fall_is_refused_where_a_hand_has_been_outlasted(self):
        for one, other in [("-", "-"), ("-", "a")]:
            duel = Duel(BOOK, read_grove(one), BOOK, read_grove(other))
            for place, rule, number in itertools.product([(), (0,), (0, 0), (None,)], [0, 1, None], [0, -1, None]):
                self.refused(NoPlace, duel, place, rule, number)

    def test_refused_falls_change_nothing(self):
        duel = Duel(BOOK, read_grove("a, b{a}"), OTHER, read_grove("c{a}"))
        for turn in range(2):
            for place in [(), (2,), (1 - turn,) + (5,), (-1,), (True,), (0, 0, 0), (1, 0, 0)] + [(thing,) for thing in odd_things()]:
                self.refused(NoPlace, duel, place, 0, 0)
            spot = [(1, 0), (0, 0)][turn]
            for rule in odd_things() + [2, -1, True, False, "0", (0,), [0]]:
                self.refused(NoRule, duel, spot, rule, 0)
                self.refused(NoRule, duel, spot, rule, -1)
            for number in odd_things() + [-1, True, False, "0", (0,), [0]]:
                self.refused(NoNumber, duel, spot, 0, number)
            duel.fall(spot, 0, 0)
        self.stands(duel, 0, "a, b", "c", None)

    def test_the_holder_that_is_not_bare(self):
        duel = Duel(BOOK, read_grove("b{a}"), BOOK, read_grove("a"))
        self.refused(NoPlace, duel, (0,), 0, 0)

    def test_too_great(self):
        book = read_book("a; b *; c")
        hedge = tuple(((("b", ((("a", ()), many),)), 4)) for many in range(10, 1009))
        duel = Duel(book, hedge, book, hedge)
        self.assertEqual(parts_of(hedge), 1998)
        duel.fall((0, 0), 0, 3)
        duel.fall((0, 0), 0, 3)
        self.assertEqual([parts_of(grove) for grove in duel.groves()], [2000, 2000])
        for turn in range(2):
            self.refused(TooGreat, duel, (0, 0), 0, 0)
            duel.fall((500, 0), 0, 0)
        deep = read_book("a; b > a{a} / -")
        duel = Duel(deep, self.chain(60), deep, self.chain(59))
        self.refused(TooGreat, duel, (0,) * 60, 1, 0)
        duel.fall((0,) * 60, 0, 0)
        duel.fall((0,) * 59, 1, 0)
        self.assertEqual(duel.turn(), 0)

    def chain(self, levels):
        """A grove so deep whose innermost tree is a b."""
        grove = ((("b", ()), 1),)
        for turn in range(levels - 1):
            grove = ((("a", grove), 1),)
        return grove

    def test_two_duels_beside_one_another(self):
        first = Duel(BOOK, read_grove("2 a"), OTHER, read_grove("c"))
        second = Duel(BOOK, read_grove("2 a"), OTHER, read_grove("c"))
        first.fall((0,), 0, 0)
        self.stands(second, 0, "2 a", "c", None)
        second.fall((0,), 0, 0)
        second.fall((0,), 0, 0)
        self.stands(first, 1, "a", "c", None)
        self.stands(second, 0, "a", "-", None)

    def test_a_book_of_changed_lists(self):
        rules = [(((("a", ()), 3),), ())]
        kinds = [("a", False, []), ("b", False, rules)]
        duel = Duel(Book(kinds), read_grove("b"), Book(kinds), read_grove("2 a"))
        rules.clear()
        kinds.clear()
        duel.fall((0,), 1, 0)
        self.stands(duel, 1, "3 a", "2 a", None)


class Answers(unittest.TestCase):

    def held(self, duel, books):
        """There is an answer just where the hand has the greater rank; it can be done, and leaves no lesser one."""
        hand = duel.turn()
        ranks = [rank(book, grove) for book, grove in zip(books, duel.groves())]
        ahead = (duel.turn(), duel.groves(), duel.outlasted())
        told = duel.answer()
        self.assertEqual(duel.answer(), told)
        self.assertEqual((duel.turn(), duel.groves(), duel.outlasted()), ahead)
        if not is_less(ranks[1 - hand], ranks[hand]):
            self.assertIsNone(told)
            return None
        self.assertIsInstance(told, tuple)
        left = rank(books[hand], fallen(books[hand], duel.groves()[hand], *told)[0])
        self.assertFalse(is_less(left, ranks[1 - hand]))
        self.assertTrue(is_less(left, ranks[hand]))
        return told

    def test_some(self):
        for one, other, is_there in [("a", "a", False), ("-", "-", False), ("2 a", "a", True), ("a", "2 a", False), ("b", "99 a", True),
                                     ("c{b}", "9 c{5 a}", True), ("b", "c{a}", False), ("-", "a", False), ("a", "-", True)]:
            duel = Duel(BOOK, read_grove(one), BOOK, read_grove(other))
            self.assertEqual(self.held(duel, (BOOK, BOOK)) is not None, is_there)

    def test_answers_at_first_for_many(self):
        pairs = books_and_groves(133, 120, most=8, manys=(1, 2, SIXTY))
        for (book, grove), (other_book, other) in zip(pairs, pairs[1:]):
            self.held(Duel(book, grove, other_book, other), (book, other_book))

    def play_out(self, chance, book, grove, other_book, other, most):
        """A duel in which one hand answers and the other does as it likes; whether it came to its end."""
        books = (book, other_book)
        duel = Duel(book, grove, other_book, other)
        keeper = 0 if outlasts(book, grove, other_book, other) else 1
        for turn in range(most):
            hand = duel.turn()
            if duel.outlasted() is not None:
                self.assertEqual(duel.outlasted(), 1 - keeper)
                with self.assertRaises(NoPlace):
                    duel.fall((0,), 0, 0)
                return True
            told = self.held(duel, books)
            if hand == keeper:
                self.assertIsNotNone(told)
            else:
                self.assertIsNone(told)
                place, rule = chance.choice(all_falls(books[hand], duel.groves()[hand]))
                # Whoever says great numbers all the time comes to groves beyond the bound, and to no end.
                small = parts_of(duel.groves()[hand]) < 30
                told = (place, rule, chance.choice([0, 0, 1, 2]) if small else 0)
            self.assertIsNone(duel.fall(*told))
            self.assertEqual(duel.turn(), 1 - hand)
        return False

    def test_by_answers_a_hand_is_never_outlasted(self):
        chance = random.Random(134)
        pairs = books_and_groves(134, 36, most=4)
        ended = 0
        for (book, grove), (other_book, other) in zip(pairs, pairs[1:]):
            ended += self.play_out(chance, book, grove, other_book, other, 60)
            ended += self.play_out(chance, other_book, other, book, grove, 60)
            ended += self.play_out(chance, book, grove, book, grove, 60)
        self.assertGreater(ended, 40)

    def test_a_long_duel(self):
        chance = random.Random(135)
        spread = read_book("a *; b * > - / a; c")
        for grove in ["a{a{a{a{a}}}}", "a{b{a{b{a{2 b}}}}}", "c{b, b{c{a}}}"]:
            self.assertTrue(self.play_out(chance, spread, read_grove(grove), BOOK, read_grove("120 a, 5 b"), 600))
            self.assertTrue(self.play_out(chance, BOOK, read_grove("120 a, 5 b"), spread, read_grove(grove), 600))

    def test_refusals_are_all_of_one_class(self):
        duel = Duel(BOOK, (), BOOK, ())
        with self.assertRaises(FellError):
            duel.fall((0,), 0, 0)
