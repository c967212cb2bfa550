import random
import unittest

from felltimber.booktexts import read_book
from felltimber.errors import FellError, NoFall, NoKind, NoNumber, NoPlace, NoRule, TooGreat
from felltimber.falls import choices, fallen
from felltimber.grovetexts import read_grove, show_grove
from felltimber.plays import Play
from tests.makers import books_and_groves, stem

BOOK = read_book("a; b * > 2 a / -; c > - / a, b{a}")


class Plays(unittest.TestCase):

    def stands(self, play, text, falls):
        self.assertEqual(show_grove(play.grove()), text)
        self.assertEqual(play.falls(), falls)

    def test_fall_back_again(self):
        play = Play(BOOK, read_grove("b{c}"))
        self.stands(play, "b{c}", [])
        self.assertEqual(play.fall((0, 0), 1, 1), (0,))
        self.stands(play, "2 b{a, b{a}}", [((0, 0), 1, 1)])
        self.assertEqual(play.fall((0, 1, 0), 0, 0), (0, 1))
        self.stands(play, "b{a, b}, b{a, b{a}}", [((0, 0), 1, 1), ((0, 1, 0), 0, 0)])
        self.assertEqual(show_grove(play.back()), "2 b{a, b{a}}")
        self.stands(play, "2 b{a, b{a}}", [((0, 0), 1, 1)])
        self.assertEqual(show_grove(play.back()), "b{c}")
        self.stands(play, "b{c}", [])
        self.assertEqual(show_grove(play.again()), "2 b{a, b{a}}")
        self.assertEqual(show_grove(play.again()), "b{a, b}, b{a, b{a}}")
        self.stands(play, "b{a, b}, b{a, b{a}}", [((0, 0), 1, 1), ((0, 1, 0), 0, 0)])

    def test_no_fall(self):
        play = Play(BOOK, read_grove("2 b"))
        self.refused(NoFall, play.back)
        self.refused(NoFall, play.again)
        play.fall((0,), 1, 0)
        self.refused(NoFall, play.again)
        play.back()
        self.refused(NoFall, play.back)
        play.again()
        self.refused(NoFall, play.again)
        self.stands(play, "2 a, b", [((0,), 1, 0)])

    def refused(self, error, deed, *things):
        with self.assertRaises(error):
            deed(*things)

    def test_a_new_fall_ends_again_a_refused_one_does_not(self):
        play = Play(BOOK, read_grove("2 b"))
        play.fall((0,), 1, 0)
        play.fall((1,), 0, 0)
        play.back()
        play.back()
        for error, row in [(NoPlace, ((1,), 0, 0)), (NoPlace, ((), 0, 0)), (NoRule, ((0,), 2, 0)), (NoNumber, ((0,), 1, -1))]:
            self.refused(error, play.fall, *row)
            self.stands(play, "2 b", [])
        play.again()
        self.refused(NoPlace, play.fall, (5,), 0, 0)
        self.stands(play, "2 a, b", [((0,), 1, 0)])
        play.again()
        self.stands(play, "2 a", [((0,), 1, 0), ((1,), 0, 0)])
        play.back()
        play.back()
        play.fall((0,), 0, 7)
        self.refused(NoFall, play.again)
        self.stands(play, "b", [((0,), 0, 7)])

    def test_a_new_fall_like_the_one_taken_back_ends_again_too(self):
        play = Play(BOOK, read_grove("3 a"))
        play.fall((0,), 0, 0)
        play.fall((0,), 0, 0)
        play.back()
        play.back()
        play.fall((0,), 0, 0)
        self.refused(NoFall, play.again)
        self.stands(play, "2 a", [((0,), 0, 0)])

    def test_refused_as_fallen_is(self):
        play = Play(read_book("a > a{a} / -"), stem(60))
        self.refused(TooGreat, play.fall, (0,) * 60, 1, 0)
        self.refused(NoNumber, play.fall, (0,) * 60, 1, True)
        self.refused(NoRule, play.fall, (0,) * 60, None, True)
        self.refused(NoPlace, play.fall, (0,) * 59, None, True)
        self.assertEqual(play.grove(), stem(60))
        self.assertEqual(play.falls(), [])
        self.refused(NoFall, play.back)

    def test_no_kind(self):
        for text, kind in [("z", "z"), ("b{z}, e", "e"), ("b{e}, z", "e")]:
            with self.assertRaises(NoKind) as caught:
                Play(BOOK, read_grove(text))
            self.assertEqual(caught.exception.kind, kind)

    def test_changes_of_the_lists_told(self):
        play = Play(BOOK, read_grove("2 b"))
        play.falls().append(((0,), 0, 0))
        self.refused(NoFall, play.back)
        play.fall((0,), 1, 0)
        told = play.falls()
        told.clear()
        self.stands(play, "2 a, b", [((0,), 1, 0)])
        play.back()
        play.again()
        self.assertEqual(told, [])
        kept = play.falls()
        play.back()
        self.assertEqual(kept, [((0,), 1, 0)])

    def test_two_plays_on_one_book(self):
        one, other = Play(BOOK, read_grove("2 b")), Play(BOOK, read_grove("2 b"))
        one.fall((0,), 1, 0)
        self.stands(other, "2 b", [])
        other.fall((0,), 0, 0)
        self.stands(one, "2 a, b", [((0,), 1, 0)])
        one.back()
        self.refused(NoFall, other.again)
        self.stands(other, "b", [((0,), 0, 0)])
        self.assertEqual(show_grove(one.again()), "2 a, b")

    def test_many_orders(self):
        chance = random.Random(61)
        for book, first in books_and_groves(61, 60, ending=False):
            play = Play(book, first)
            done, undone = [], []
            for turn in range(40):
                self.assertEqual(play.falls(), [row for row, grove in done])
                stands = done[-1][1] if done else first
                self.assertEqual(play.grove(), stands)
                deed = chance.choice(["fall", "fall", "fall", "wrong", "back", "back", "again", "again"])
                may = choices(book, stands)
                if deed == "fall" and may:
                    place, rule = chance.choice(may)
                    row = (place, rule, chance.choice([0, 1, 2]))
                    told = self.attempt(lambda: fallen(book, stands, *row))
                    if told is None:
                        self.refused(TooGreat, play.fall, *row)
                        continue
                    self.assertEqual(play.fall(*row), told[1])
                    done.append((row, told[0]))
                    undone = []
                if deed == "wrong":
                    self.refused(NoPlace, play.fall, (), 0, 0)
                if deed == "back":
                    done, undone = self.moved(play.back, done, undone)
                if deed == "again":
                    undone, done = self.moved(play.again, undone, done)

    def attempt(self, deed):
        try:
            return deed()
        except FellError:
            return None

    def moved(self, deed, source, goal):
        if not source:
            self.refused(NoFall, deed)
            return source, goal
        deed()
        return source[:-1], goal + source[-1:]
