import itertools
import unittest

from felltimber.booktexts import read_book, show_book
from felltimber.desk import Desk
from felltimber.errors import (
    Endless, FellError, NoBook, NoFall, NoGrove, NoKind, NoLadder, NoName, NoPlace, NoReach, NoRow, NoRule, TooGreat, TooLong,
)
from felltimber.fewests import fewest_falls
from felltimber.grovetexts import read_grove, show_grove
from felltimber.ladders import is_less
from felltimber.laddertexts import read_ladder, show_ladder
from felltimber.mosts import most_falls
from felltimber.orders import orders
from felltimber.plays import Play
from felltimber.ranks import rank
from tests.makers import SIXTY, SIXTY_NINES, all_falls, books_and_groves, odd_things

BOOK = "a; b > - / a; c *; d > 2 a / - > b / b"
ROUND = "a > a / -; b; c > a / -"
ROWS = [
    "book n a; b", "grove n woods a", "show oak", "fall oak 0.0 1 2", "back oak", "again oak", "rank oak", "fate woods b", "reach oak z", "outlasts oak elm",
    "most oak 2", "fewest oak 2", "orders oak", "needs woods",
]
WITHOUT_TEXT = ROWS[2:]


def desk():
    """A desk with two books and three plays; one fall is done in elm and one is taken back."""
    told = Desk()
    for row in [
        "book woods " + BOOK, "book ring " + ROUND, "grove oak woods 2 c{b}", "grove elm woods 3 a, b", "grove ash ring a, 2 b", "fall elm 1 1 4",
        "fall elm 0 0 0", "back elm",
    ]:
        told.say(row)
    return told


def state(told):
    """All that the desk of these tests tells of what it keeps, taken back and done again."""
    row = []
    for name in ["woods", "ring", "oak", "elm", "ash", "n", "m"]:
        for word in ["show", "rank", "needs"]:
            try:
                row.append(told.say(f"{word} {name}"))
            except FellError as refusal:
                row.append(refusal.__class__.__name__)
    return row


class Rows(unittest.TestCase):
    """What the tests below share: rows that are answered, and rows that are refused."""

    def said(self, told, *rows):
        for row, wanted in rows:
            self.assertEqual(told.say(row), wanted, row)

    def refused(self, told, error, row):
        with self.assertRaises(error, msg=row) as caught:
            told.say(row)
        self.assertIs(caught.exception.__class__, error, row)
        return caught.exception


class Said(Rows):

    def test_each_sort_of_rows(self):
        self.said(
            Desk(), ("book woods " + BOOK, "ok"), ("grove oak woods 2 c{b}", "ok"), ("grove elm woods 3 a, b", "ok"), ("show woods", BOOK),
            ("show oak", "2 c{b}"), ("rank oak", "z[z]*2"), ("fall oak 0.0 1 2", "3 c{2 a}, c{b}"), ("show oak", "3 c{2 a}, c{b}"), ("rank oak", "z[z]+z[2]*3"),
            ("back oak", "2 c{b}"), ("again oak", "3 c{2 a}, c{b}"), ("back oak", "2 c{b}"), ("fate woods a", "1"), ("fate woods d", "z[2]"),
            ("outlasts oak elm", "yes"), ("outlasts elm oak", "no"), ("outlasts oak oak", "no"), ("most elm 5", "9"), ("most oak 1", "14"),
            ("fewest elm 5", "4"), ("fewest oak 1", "6"), ("orders oak", "6"), ("orders elm", "24"), ("needs woods", "power"),
            ("book ring " + ROUND, "ok"), ("fate ring a", "endless"), ("fate ring b", "1"), ("fate ring c", "endless"), ("show ring", ROUND),
            ("grove ash ring a, 2 b", "ok"), ("fewest ash 9", "3"), ("orders ash", "6"), ("show ash", "a, 2 b"), ("grove fir woods -", "ok"),
            ("show fir", "-"), ("rank fir", "0"), ("most fir 7", "0"), ("fewest fir 7", "0"), ("orders fir", "1"), ("outlasts oak fir", "yes"),
        )

    def test_reach(self):
        told = desk()
        for name, text, goals in [("oak", "2 c{b}", ["0", "1", "z[z]", "z[z]+z[90]*8", "z[9]"]), ("elm", "7 a", ["0", "6", "3"])]:
            ahead = rank(read_book(BOOK), read_grove(text))
            for goal in goals:
                answer = read_grove(told.say(f"reach {name} {goal}"))
                behind = rank(read_book(BOOK), answer)
                self.assertFalse(is_less(behind, read_ladder(goal)))
                self.assertTrue(is_less(behind, ahead))
                self.assertEqual(told.say(f"show {name}"), text)

    def test_sixty_figures(self):
        told = desk()
        self.said(
            told, (f"fall elm 0 0 {SIXTY_NINES}", "6 a"), (f"most elm {SIXTY}", "6"), (f"fewest elm {SIXTY_NINES}", "6"), ("grove n woods b", "ok"),
            (f"most n {SIXTY}", str(SIXTY + 1)), (f"fall n 0 1 {SIXTY_NINES}", f"{SIXTY_NINES} a"), ("rank n", str(SIXTY_NINES)),
            ("grove n woods c{a}", "ok"), (f"fewest n {SIXTY_NINES}", str(SIXTY_NINES + 2)), (f"most n {SIXTY}", str(SIXTY + 2)),
        )

    def test_a_text_may_hold_blanks_and_be_long(self):
        told = Desk()
        text = "; ".join(f"{name} * > a, 2 b / b{{b}} > - / 3 a" for name in "abcdefgh")
        self.said(told, ("book x " + text, "ok"), ("show x", text))
        grove = ", ".join(f"a{{{many} a}}" for many in range(2, 32))
        self.said(told, ("grove y x " + grove, "ok"), ("show y", grove))

    def test_first_words_as_names(self):
        told = Desk()
        for word in ["book", "grove", "show", "fall", "back", "again", "rank", "fate", "reach", "outlasts", "most", "fewest", "orders", "needs"]:
            self.said(told, (f"book {word} {word}", "ok"), (f"show {word}", word), (f"fate {word} {word}", "1"))
            self.said(told, (f"grove {word} {word} 2 {word}", "ok"), (f"show {word}", "2 " + word), (f"rank {word}", "2"), (f"orders {word}", "2"))

    def test_like_the_functions(self):
        for book, grove in books_and_groves(201, 40, most=4):
            told = Desk()
            self.said(
                told, (f"book x {show_book(book)}", "ok"), (f"grove y x {show_grove(grove)}", "ok"), ("show x", show_book(book)), ("show y", show_grove(grove)),
                ("rank y", show_ladder(rank(book, grove))), ("fewest y 1", str(fewest_falls(book, grove, 1))), ("orders y", str(orders(grove))),
                ("most y 0", str(most_falls(book, grove, 0))),
            )
            play = Play(book, grove)
            for place, rule in all_falls(book, grove)[:4]:
                play.fall(place, rule, 3)
                self.said(told, (f"fall y {'.'.join(map(str, place))} {rule} 3", show_grove(play.grove())))
                self.said(told, ("back y", show_grove(play.back())))

    def test_back_again_and_a_new_fall(self):
        told = Desk()
        self.said(
            told, ("book w a; b > 2 a / -", "ok"), ("grove p w 2 b", "ok"), ("fall p 0 1 0", "2 a, b"), ("fall p 1 1 0", "4 a"), ("back p", "2 a, b"),
            ("back p", "2 b"), ("again p", "2 a, b"), ("again p", "4 a"), ("back p", "2 a, b"), ("fall p 0 0 0", "a, b"),
        )
        self.refused(told, NoFall, "again p")
        self.said(told, ("back p", "2 a, b"), ("again p", "a, b"), ("back p", "2 a, b"), ("back p", "2 b"))
        self.refused(told, NoFall, "back p")
        self.refused(told, NoPlace, "fall p 1 0 0")
        self.said(told, ("again p", "2 a, b"))


class Names(Rows):

    def test_a_name_kept_anew(self):
        told = desk()
        self.said(told, ("book woods a *", "ok"), ("show woods", "a *"))
        # The plays go on with the book that they were kept on.
        self.said(told, ("rank oak", "z[z]*2"), ("fall oak 0.0 1 1", "2 c{a}, c{b}"), ("back oak", "2 c{b}"), ("show elm", "7 a"), ("again elm", "6 a"))
        self.said(told, ("grove woods ring b", "ok"), ("show woods", "b"), ("rank oak", "z[z]*2"), ("rank woods", "1"))
        for row in ["fate woods a", "needs woods", "grove n woods a"]:
            self.refused(told, NoName, row)
        self.said(told, ("book oak b > - / b", "ok"), ("show oak", "b > - / b"), ("fate oak b", "endless"))
        for row in ["rank oak", "fall oak 0 0 0", "back oak", "again oak", "outlasts oak elm", "outlasts elm oak", "most oak 1", "fewest oak 1", "orders oak", "reach oak 0"]:
            self.refused(told, NoName, row)
        self.said(told, ("grove oak oak 2 b", "ok"), ("show oak", "2 b"), ("fewest oak 3", "2"))

    def test_a_play_kept_anew_has_no_falls(self):
        told = desk()
        self.said(told, ("grove elm woods 3 a, b", "ok"), ("show elm", "3 a, b"))
        self.refused(told, NoFall, "back elm")
        self.refused(told, NoFall, "again elm")

    def test_a_book_kept_by_a_play_of_its_own_name(self):
        told = desk()
        self.said(told, ("grove woods woods 2 c{b}", "ok"), ("rank woods", "z[z]*2"), ("outlasts woods elm", "yes"), ("orders woods", "6"))
        self.refused(told, NoName, "needs woods")

    def test_nothing_of_the_wanted_sort(self):
        for told in (desk(), Desk()):
            for row in [
                "grove n x a", "grove n x ", "grove n x {", "show x", "fall x 0 0 0", "back x", "again x", "rank x", "fate x a", "fate x zz", "reach x 0",
                "reach x zz", "outlasts x x", "most x 0", "fewest x 0", "orders x", "needs x",
            ]:
                self.refused(told, NoName, row)
        told = desk()
        for row in ["grove n oak a", "grove oak oak ?", "fate oak a", "needs oak"]:
            self.refused(told, NoName, row)
        for row in [
            "fall woods 0 0 0", "back woods", "again woods", "rank woods", "reach woods 0", "reach woods ?", "outlasts woods oak", "outlasts oak woods",
            "outlasts oak x", "outlasts x oak", "most woods 0", "fewest woods 0", "orders woods",
        ]:
            self.refused(told, NoName, row)

    def test_two_desks_keep_their_own(self):
        one, other = desk(), desk()
        self.said(one, ("book woods a", "ok"), ("fall oak 0.0 0 0", "c, c{b}"))
        self.said(other, ("show woods", BOOK), ("show oak", "2 c{b}"))
        self.refused(Desk(), NoName, "show oak")


class NoRows(Rows):

    def no_row(self, row):
        """It is refused so at a desk with what is named, and at one without anything."""
        for told in (self.full, self.empty):
            self.refused(told, NoRow, row)

    def setUp(self):
        self.full, self.empty = desk(), Desk()
        self.ahead = state(self.full)

    def tearDown(self):
        self.assertEqual(state(self.full), self.ahead)
        self.assertEqual(state(self.empty), state(Desk()))

    def test_things_that_are_no_texts(self):
        for thing in [thing for thing in odd_things() if not isinstance(thing, str)] + [0, 1, True, [], (), ["show oak"], ("show", "oak"), b"show oak"]:
            self.no_row(thing)

    def test_texts_that_are_no_rows(self):
        for row in [
            "", " ", "\n", "\t", "oak", "ok", "show", "showoak", "shows oak", "Show oak", "SHOW oak", "s oak", "show oak elm", "tell oak", "keep oak", ".", "0",
            "book", "grove", "play oak", "list", "help", "table oak", "row ring a 3", "falls oak", "rank", "needs", "orders", "most", "show\toak", "show\noak",
        ]:
            self.no_row(row)

    def test_words_missing_or_too_many(self):
        for row in WITHOUT_TEXT:
            words = row.split(" ")
            for end in range(len(words)):
                self.no_row(" ".join(words[:end]))
            for extra in ["oak", "0", "a", "-", "z"]:
                for at in range(len(words) + 1):
                    if at > 0:
                        self.no_row(" ".join(words[:at] + [extra] + words[at:]))
        for row in ["book", "book ", "book n", "grove", "grove ", "grove n", "grove n ", "grove n woods"]:
            self.no_row(row)

    def test_blanks_tabs_and_line_feeds(self):
        for row in WITHOUT_TEXT:
            for sign in [" ", "\t", "\n"]:
                self.no_row(row + sign)
                self.no_row(sign + row)
                for at, found in enumerate(row):
                    if found == " ":
                        self.no_row(row[:at] + sign + row[at:])
                        self.no_row(row[:at + 1] + sign + row[at + 1:])
                        if sign != " ":
                            self.no_row(row[:at] + sign + row[at + 1:])
        for row in [
            " book n a", "\tbook n a", "book  n a", "book\tn a", "book\nn a", "book n\ta", "book n\n a", "book \tn a", " grove n woods a", "grove  n woods a",
            "grove n  woods a", "grove n\twoods a", "grove n woods\ta", "grove n woods\n a",
        ]:
            self.no_row(row)

    def test_names_that_are_none(self):
        for name in ["", "A", "Oak", "oak1", "1", "abcdefghi", "o.k", "o-k", "o_k", "*", "oak,", "\u00e9"]:
            for row in [
                f"book {name} a", f"grove {name} woods a", f"grove n {name} a", f"show {name}", f"fall {name} 0 0 0", f"back {name}", f"again {name}", f"rank {name}",
                f"fate {name} a", f"fate woods {name}", f"reach {name} 0", f"outlasts {name} oak", f"outlasts oak {name}", f"most {name} 0", f"fewest {name} 0",
                f"orders {name}", f"needs {name}",
            ]:
                self.no_row(row)

    def test_numbers_that_are_none(self):
        for word in ["", "-1", "+1", "1.", "01", "00", "007", "0x1", "1_0", "a", "one", "1,0", "1e3", "*", "9" * 61, "0" * 60, "1" + "0" * 60, "\u0661", "\u00b2", "1.0"]:
            for row in [f"fall oak 0.0 {word} 2", f"fall oak 0.0 1 {word}", f"most oak {word}", f"fewest oak {word}"]:
                self.no_row(row)
            if word != "1.0":
                for row in [f"fall oak {word} 0 0", f"fall oak 0.{word} 0 0", f"fall oak {word}.0 0 0"]:
                    self.no_row(row)

    def test_places_that_are_none(self):
        for place in [".", "0.", ".0", "0..0", "0.0.", "0,0", "(0,)", "0 .0", "-", "()", "0.00", "00.0", "0.a", "0.-1", "0:0", "0." + "9" * 61]:
            self.no_row(f"fall oak {place} 0 0")

    def test_a_ladder_is_one_word(self):
        for row in ["reach oak", "reach oak ", "reach oak z +1", "reach oak z+1 ", "reach oak  z", "reach oak z 0", "reach oak \t", "reach oak z\n"]:
            self.no_row(row)

    def test_a_text_that_is_long(self):
        self.no_row("x" * 4000)
        self.no_row("show " + "a" * 3990)
        self.no_row("fall oak 0.0 1 " + "1" * 3000)


class Refusals(Rows):

    def unchanged(self, error, row):
        told = desk()
        ahead = state(told)
        refusal = self.refused(told, error, row)
        self.assertEqual(state(told), ahead)
        # What was taken back ahead of it can still be done again.
        self.said(told, ("again elm", "6 a"), ("back elm", "7 a"), ("back elm", "3 a, b"))
        return refusal

    def test_texts(self):
        for text in ["", " ", "a;", "A", "a; a", "a > b / -", "a >", " a", "a ", "a\n", "a\t", "\n", "2 a", "a > 1000000001 a / -", "a > a{a{a{a{a}}}} / -", "?", "\u00e9"]:
            self.unchanged(NoBook, "book n " + text)
            self.unchanged(NoBook, "book woods " + text)
            self.unchanged(NoBook, "book oak " + text)
        for text in ["", " ", "1 a", "b, a", "a ", " a", "a\n", "a{", "{}", "0 a", "9" * 61 + " a", "a{-}", "?", "a" * 9, "a{" * 12 + "a" + "}" * 12]:
            self.unchanged(NoGrove, "grove n woods " + text)
            self.unchanged(NoGrove, "grove elm woods " + text)
        for text in ["?", "z[1]", "z[z", "00", "01", "-1", "z+z", "1+z", "9" * 61, "z,", "z[0]", "z*1", "w", "Z", "z[" * 13 + "z" + "]" * 13]:
            self.unchanged(NoLadder, "reach oak " + text)
            self.unchanged(NoLadder, "reach ash " + text)

    def test_functions(self):
        for error, row in [
            (NoKind, "grove n woods z"), (NoKind, "grove elm woods a{y}, z"), (NoKind, "grove n ring d"), (NoKind, "fate woods z"), (NoKind, "fate ring d"),
            (NoPlace, "fall oak 0 0 0"), (NoPlace, "fall oak 1 0 0"), (NoPlace, "fall oak 0.1 5 0"), (NoPlace, "fall oak 0.0.0 0 0"), (NoRule, "fall oak 0.0 2 0"),
            (NoPlace, f"fall oak {SIXTY_NINES} 0 0"), (NoRule, f"fall oak 0.0 {SIXTY_NINES} 0"), (NoFall, "back oak"), (NoFall, "again oak"), (Endless, "rank ash"),
            (Endless, "reach ash 0"), (Endless, "reach ash z[z[z]]"), (NoReach, "reach oak z[z]*2"), (NoReach, "reach oak z[z[z]]"), (NoReach, "reach elm 7"),
            (Endless, "outlasts ash oak"), (Endless, "outlasts oak ash"), (Endless, "most ash 0"), (TooLong, f"most oak {SIXTY}"), (TooLong, "most oak 999"),
            (Endless, "needs ring"),
        ]:
            self.unchanged(error, row)
        self.assertEqual(self.unchanged(NoKind, "grove elm woods a{y}, z").kind, "y")
        self.assertEqual(self.unchanged(NoKind, "fate woods z").kind, "z")
        self.assertEqual(self.unchanged(Endless, "needs ring").kind, "a")
        self.assertEqual(self.unchanged(Endless, "rank ash").kind, "a")

    def test_too_long_and_too_great(self):
        told = desk()
        self.said(told, ("grove n woods 401 a", "ok"))
        self.refused(told, TooLong, "orders n")
        self.said(told, ("fall n 0 0 0", "400 a"), ("grove n woods c{c{c{c}}}", "ok"))
        self.assertEqual(len(told.say("orders oak")), 1)
        self.refused(told, TooLong, "fewest n 99999")
        self.said(told, ("book w a > a{a} / -", "ok"), ("grove n w a", "ok"))
        for levels in range(1, 60):
            told.say(f"fall n {'.'.join(['0'] * levels)} 1 0")
        ahead = told.say("show n")
        self.refused(told, TooGreat, f"fall n {'.'.join(['0'] * 60)} 1 0")
        self.said(told, ("show n", ahead), (f"fall n {'.'.join(['0'] * 60)} 0 0", ahead.replace("a{a}", "a")))

    def test_two_and_more_faults_at_once(self):
        for error, row in [
            # A row that is none, ahead of names, texts and functions.
            (NoRow, "fall x 0 00 0"), (NoRow, "grove n X {"), (NoRow, "grove N x {"), (NoRow, "reach x ? ?"), (NoRow, "fate x A"), (NoRow, "most x 01"),
            (NoRow, "outlasts x Y"), (NoRow, "fall ash 9 9 x"), (NoRow, "book N {"), (NoRow, "fate woods Z"), (NoRow, "show x y"),
            # A name, ahead of texts and functions.
            (NoName, "grove n x {"), (NoName, "grove n oak z"), (NoName, "reach x ?"), (NoName, "reach woods ?"), (NoName, "fate x z"), (NoName, "fate oak z"),
            (NoName, "outlasts ash x"), (NoName, "outlasts x ash"), (NoName, "outlasts ash ring"), (NoName, "fall x 9 9 9"), (NoName, "most ring 9"),
            # A text, ahead of functions.
            (NoGrove, "grove n woods z, y"), (NoLadder, "reach ash ?"), (NoLadder, "reach ash z[z[z]]]"),
            # And these in their own order.
            (NoPlace, "fall oak 9 9 9"), (NoRule, "fall oak 0.0 9 9"), (Endless, "reach ash z[z]"), (Endless, "outlasts ash ash"),
        ]:
            self.unchanged(error, row)

    def test_what_changes_nothing(self):
        for row in [
            "reach oak z", "rank oak", "fate woods b", "outlasts oak elm", "most oak 1", "fewest oak 1", "orders oak", "needs woods", "show oak", "show woods",
            "reach elm 2", "rank elm", "outlasts elm oak", "most elm 9", "fewest elm 9", "orders elm", "show elm",
        ]:
            told = desk()
            ahead = state(told)
            answer = told.say(row)
            self.assertIsInstance(answer, str)
            self.assertEqual(told.say(row), answer)
            self.assertEqual(state(told), ahead)
            self.said(told, ("again elm", "6 a"), ("back elm", "7 a"), ("back elm", "3 a, b"))
            self.refused(told, NoFall, "back elm")
            self.refused(told, NoFall, "back oak")

    def test_all_pairs_of_rows(self):
        for first, second in itertools.product(ROWS, ROWS):
            told = desk()
            told.say("fall oak 0.0 0 0")
            for row in (first, second):
                try:
                    self.assertIsInstance(told.say(row), str)
                except (NoFall, NoPlace):
                    # There may be nothing to be done again, or no tree there any more.
                    self.assertIn(row.split(" ")[0], ["back", "again", "fall"])
