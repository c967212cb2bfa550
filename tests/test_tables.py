import copy
import random
import unittest

from felltimber.booktexts import read_book
from felltimber.climbs import above, spread
from felltimber.errors import Endless, NoKind
from felltimber.fates import endless_kinds
from felltimber.grovetexts import read_grove
from felltimber.ladders import is_ladder, number
from felltimber.laddertexts import read_ladder
from felltimber.ranks import own_rank, rank
from felltimber.sums import behind, both, many_of
from felltimber.tables import is_table, table
from felltimber.trees import is_grove, is_tree, together
from tests.makers import SIXTY, all_rules, books, books_and_groves, grove_on, kinds_of, odd_things, places_with_trees, stem

BOOK = read_book("a; b > - / a > 2 a / -; c * > b / - > b{a} / - > - / c{b}; d > a{b} / 2 b; e * > - / - > 3 d / -")
ENDING = read_book("a; b > - / a > 2 a / -; c * > b / - > b{a} / -; d > a{b} / 2 b; e * > - / - > 3 d / -; f *")


def found(rows, tree):
    """The ladder of a tree's row, or None."""
    told = [row[2] for row in rows if row[0] == "tree" and row[1] == tree]
    return told[0] if told else None


def grove_ladder(rows, grove):
    """What is told of a grove by the rows, or None where one is missing."""
    told = ()
    for tree, many in grove:
        if found(rows, tree) is None:
            return None
        told = both(told, many_of(found(rows, tree), many))
    return told


def rule_ladder(rows, rule):
    once, each = rule
    if any(found(rows, tree) is None for place, tree in places_with_trees(once) + places_with_trees(each)):
        return None
    return above(grove_ladder(rows, once), grove_ladder(rows, each))


def is_right_row(book, rows, row):
    """Whether a row of a right form is right behind others, by the document's words."""
    if row[0] == "kind":
        word, name, rule, ladder = row
        if name not in book.names() or not 0 <= rule < len(all_rules(book, name)):
            return False
        told = [rule_ladder(rows, some) for some in all_rules(book, name)]
        return None not in told and told[rule] == ladder == max(told)
    word, (kind, held), ladder = row
    own = [other[3] for other in rows if other[0] == "kind" and other[1] == kind]
    inner = grove_ladder(rows, held)
    if not own or inner is None:
        return False
    return ladder == (spread if book.spreads(kind) else behind)(own[0], inner)


def has_form(row):
    if not isinstance(row, tuple) or not row:
        return False
    if row[0] == "kind":
        return len(row) == 4 and isinstance(row[1], str) and isinstance(row[2], int) and not isinstance(row[2], bool) and is_ladder(row[3])
    return row[0] == "tree" and len(row) == 3 and is_tree(row[1]) and is_ladder(row[2])


def plain_is_table(book, grove, rows):
    """Whether a list of rows is a right table, by the document's words."""
    if not isinstance(rows, list) or not rows:
        return False
    for at, row in enumerate(rows[:-1]):
        if not has_form(row) or row[:2] in [other[:2] for other in rows[:at]] or not is_right_row(book, rows[:at], row):
            return False
    last = rows[-1]
    if not isinstance(last, tuple) or len(last) != 3 or last[0] != "grove" or not is_grove(last[1]) or not is_ladder(last[2]):
        return False
    return last[1] == grove and last[2] == grove_ladder(rows[:-1], grove)


class Like:
    """A thing that Python holds for like each other one."""

    def __eq__(self, other):
        return True

    def __hash__(self):
        return 0


def with_likes(thing):
    """The thing with what it holds, at each place, made a thing that is held for like it."""
    yield Like()
    if isinstance(thing, tuple):
        for at, part in enumerate(thing):
            for changed in with_likes(part):
                yield thing[:at] + (changed,) + thing[at + 1:]


def with_lists(thing):
    """The thing with one of its tuples, at each place, made a list."""
    if isinstance(thing, tuple):
        yield list(thing)
        for at, part in enumerate(thing):
            for changed in with_lists(part):
                yield thing[:at] + (changed,) + thing[at + 1:]


def with_truths(thing):
    """The thing with one of its numbers 0 and 1, at each place, made a truth."""
    if isinstance(thing, int) and thing in (0, 1):
        yield bool(thing)
    if isinstance(thing, tuple):
        for at, part in enumerate(thing):
            for changed in with_truths(part):
                yield thing[:at] + (changed,) + thing[at + 1:]


class Tables(unittest.TestCase):

    def told(self, book, grove):
        kept = copy.deepcopy(grove)
        told = table(book, grove)
        self.assertIsInstance(told, list)
        self.assertTrue(plain_is_table(book, grove, told), grove)
        self.assertIs(is_table(book, grove, told), True)
        self.assertEqual(told[-1], ("grove", grove, rank(book, grove)))
        self.assertEqual(grove, kept)
        return told

    def test_some(self):
        for text in ["-", "a", "5 a", "b", "a, b", "c", "e", "d{e}", "c{c{c}}", "a{b, c{d}}, 3 e{e}", "2 a{a}, 7 c{2 b, d{a}}"]:
            self.told(BOOK if "c" not in text else ENDING, read_grove(text))

    def test_without_trees(self):
        self.assertEqual(table(BOOK, ()), [("grove", (), ())])
        self.assertIs(is_table(BOOK, (), [("grove", (), ())]), True)

    def test_one_by_hand(self):
        book = read_book("a; b > - / a")
        rows = [("kind", "a", 0, number(1)), ("tree", ("a", ()), number(1)), ("kind", "b", 1, read_ladder("z")), ("tree", ("b", ()), read_ladder("z"))]
        rows.append(("grove", read_grove("2 b"), read_ladder("z*2")))
        self.assertIs(is_table(book, read_grove("2 b"), rows), True)
        for at in range(len(rows)):
            self.assertIs(is_table(book, read_grove("2 b"), rows[:at] + rows[at + 1:]), False)

    def test_many(self):
        for book, grove in books_and_groves(191, 120) + books_and_groves(192, 10, most=60) + books_and_groves(193, 40, manys=(1, SIXTY)):
            rows = self.told(book, grove)
            for row in rows[:-1]:
                if row[0] == "kind":
                    self.assertEqual(row[3], own_rank(book, row[1]))
                else:
                    self.assertEqual(row[2], rank(book, ((row[1], 1),)))

    def test_deep_ones(self):
        for book in (read_book("a *"), read_book("a; b"), read_book("a * > - / b{b}; b *")):
            self.told(book, stem(60))

    def test_beside_endless_kinds(self):
        book = read_book("a; b > b / -; c > a / -; d > b / -")
        self.told(book, read_grove("a, 2 c{a}"))

    def test_right_rows_that_nothing_needs(self):
        chance = random.Random(194)
        for book, grove in books_and_groves(194, 80, most=6):
            other = grove_on(chance, book.names(), 8)
            rows = table(book, together(grove, other))[:-1] + table(book, grove)[-1:]
            self.assertTrue(plain_is_table(book, grove, rows))
            self.assertIs(is_table(book, grove, rows), True)

    def test_another_order_of_rows(self):
        chance = random.Random(195)
        for book, grove in books_and_groves(195, 60, most=6):
            rows = table(book, grove)
            for turn in range(10):
                one, other = chance.randrange(len(rows)), chance.randrange(len(rows))
                near = list(rows)
                near[one], near[other] = near[other], near[one]
                self.assertIs(is_table(book, grove, near), plain_is_table(book, grove, near))

    def test_any_rule_that_is_as_great(self):
        book = read_book("a > - / -; b > a / - > a{a} / - > 2 a / -")
        grove = read_grove("b")
        rows = table(book, grove)
        for at, row in enumerate(rows):
            if row[0] == "kind":
                for rule, right in enumerate([True, True] if row[1] == "a" else [False, False, True, True]):
                    self.assertIs(is_table(book, grove, rows[:at] + [("kind", row[1], rule, row[3])] + rows[at + 1:]), right)

    def test_told_again_behind_a_change(self):
        grove = read_grove("a{b}, d")
        told = table(BOOK, grove)
        kept = list(told)
        told.reverse()
        told.pop()
        self.assertEqual(table(BOOK, grove), kept)
        asked = list(kept)
        self.assertIs(is_table(BOOK, grove, asked), True)
        self.assertEqual(asked, kept)
        asked.append(None)
        self.assertIs(is_table(BOOK, grove, asked), False)
        self.assertEqual(asked, kept + [None])

    def test_refused(self):
        book = read_book("a; b > b / -; c > b / -; d > a / -")
        for text, error, kind in [
            ("z", NoKind, "z"), ("b, e, z", NoKind, "e"), ("b{z}, e", NoKind, "e"), ("b", Endless, "b"), ("c", Endless, "c"), ("a{d{c}}, d{b}", Endless, "b"),
        ]:
            with self.assertRaises(error) as caught:
                table(book, read_grove(text))
            self.assertEqual(caught.exception.kind, kind)

    def test_no_kind_of_is_table(self):
        for text, kind in [("z", "z"), ("b, y, z", "y"), ("b{z}, y", "y")]:
            for thing in [None, [], table(BOOK, ()), [("grove", read_grove(text), ())]]:
                with self.assertRaises(NoKind) as caught:
                    is_table(BOOK, read_grove(text), thing)
                self.assertEqual(caught.exception.kind, kind)


class WrongTables(unittest.TestCase):

    def wrong(self, book, grove, thing):
        self.assertIs(is_table(book, grove, thing), False, thing)

    def some(self):
        for text in ["a, 2 b", "b{a}, c{a, d}, e", "c{c{b}}"]:
            yield ENDING, read_grove(text), table(ENDING, read_grove(text))
        for book, grove in books_and_groves(196, 12, most=5):
            yield book, grove, table(book, grove)

    def test_rows_left_out_or_twice(self):
        for book, grove, rows in self.some():
            for at in range(len(rows)):
                self.wrong(book, grove, rows[:at] + rows[at + 1:])
                for other in range(len(rows) + 1):
                    self.wrong(book, grove, rows[:other] + [rows[at]] + rows[other:])
            self.wrong(book, grove, rows[::-1] if len(rows) > 1 else [])
            self.wrong(book, grove, rows + rows)

    def test_the_row_of_the_grove_amid_or_missing(self):
        for book, grove, rows in self.some():
            for at in range(len(rows) - 1):
                self.wrong(book, grove, rows[:at] + rows[-1:] + rows[at:-1])
                self.wrong(book, grove, rows[:at] + rows[-1:] + rows[at:])
                self.wrong(book, grove, rows[:at] + [("grove", (), ())] + rows[at:])
            self.wrong(book, grove, rows[:-1])

    def test_lists_truths_and_things_held_for_like_in_the_place_of_others(self):
        for book, grove, rows in self.some():
            self.wrong(book, grove, tuple(rows))
            for at, row in enumerate(rows):
                for changed in list(with_lists(row)) + list(with_truths(row)) + list(with_likes(row)):
                    self.wrong(book, grove, rows[:at] + [changed] + rows[at + 1:])

    def test_another_ladder(self):
        for book, grove, rows in self.some():
            for at, row in enumerate(rows):
                for ladder in [both(row[-1], number(1)), (), both(row[-1], row[-1]), row[-1][:-1], ((row[-1], 1),)]:
                    if ladder != row[-1]:
                        self.wrong(book, grove, rows[:at] + [row[:-1] + (ladder,)] + rows[at + 1:])
                for thing in odd_things() + [0, 1, True, -1, "0", [], [()], (1,), ((1, 1),), (((), 0),), (((), 1), ((), 1)), (((), 1), (number(1), 1))]:
                    self.wrong(book, grove, rows[:at] + [row[:-1] + (thing,)] + rows[at + 1:])

    def test_another_rule(self):
        seen = 0
        for book, grove, rows in self.some():
            for at, row in enumerate(rows):
                if row[0] == "kind":
                    for rule in list(range(-2, 7)) + [SIXTY]:
                        near = rows[:at] + [("kind", row[1], rule, row[3])] + rows[at + 1:]
                        self.assertIs(is_table(book, grove, near), plain_is_table(book, grove, near))
                        seen += not is_table(book, grove, near)
                    for rule in odd_things() + [True, False, str(row[2]), (row[2],), [row[2]]]:
                        self.wrong(book, grove, rows[:at] + [("kind", row[1], rule, row[3])] + rows[at + 1:])
        self.assertGreater(seen, 60)

    def test_rows_cut_or_lengthened_or_of_another_kind(self):
        for book, grove, rows in self.some():
            for at, row in enumerate(rows):
                near = [row[:-1], row[1:], row + (row[-1],), row + ((),), row + (None,), (), (row,), row[:1], (row[0],) + row]
                near += [(word,) + row[1:] for word in ["kind", "tree", "grove", "Kind", "", "kind ", None, 0, b"kind", ("kind",)] if word != row[0]]
                near += [row[:1] + (thing,) + row[2:] for thing in odd_things() + [0, True, [], ("zz", ()), "zz", ("a", None), ((("zz", ()), 1),)]
                         if thing != row[1]]
                for changed in near + odd_things() + [0, 1, True, [], [row], "kind"]:
                    thing = rows[:at] + [changed] + rows[at + 1:]
                    self.assertIs(is_table(book, grove, thing), plain_is_table(book, grove, thing), thing)
                    self.wrong(book, grove, thing)

    def test_kinds_that_the_book_has_not(self):
        for book, grove, rows in self.some():
            for row in [("kind", "zz", 0, number(1)), ("tree", ("zz", ()), number(1)), ("kind", "", 0, number(1)), ("tree", ("zz", grove), number(1))]:
                for at in range(len(rows)):
                    self.wrong(book, grove, rows[:at] + [row] + rows[at:])

    def test_another_grove(self):
        for book, grove, rows in self.some():
            for other in [together(grove, grove), (), together(grove, (((book.names()[0], ()), 1),))]:
                self.wrong(book, other, rows)
                self.wrong(book, other, rows[:-1] + [("grove", other, rows[-1][2])])

    def test_things_of_any_kind(self):
        for thing in odd_things() + [0, 1, True, [], (), [[]], [()], [None], [0], ["grove"], [("grove",)], {"grove": 1}, "grove", [[("grove", (), ())]]]:
            self.wrong(ENDING, read_grove("a"), thing)
            self.wrong(ENDING, (), thing)
        self.wrong(ENDING, (), (("grove", (), ()),))

    def test_endless(self):
        book = read_book("a > a / -; b; c > b / -; d > a / -")
        rows = table(book, read_grove("b, c"))
        one = number(1)
        for text in ["a", "d", "b{a}", "c, d", "a{b}"]:
            grove = read_grove(text)
            for ladder in [one, number(2), (), read_ladder("z")]:
                for own in ([("kind", "a", 0, one)], [("tree", ("a", ()), one), ("kind", "a", 0, one)], [("kind", "a", 1, one), ("tree", ("a", ()), one)]):
                    self.wrong(book, grove, rows[:-1] + own + [("grove", grove, ladder)])
                self.wrong(book, grove, rows[:-1] + [("grove", grove, ladder)])
        refused = 0
        for book in books(197, 60, ending=False):
            for name in endless_kinds(book):
                self.wrong(book, (((name, ()), 1),), [("kind", name, 0, one), ("tree", (name, ()), one), ("grove", (((name, ()), 1),), one)])
                refused += 1
        self.assertGreater(refused, 50)

    def test_a_kind_is_never_said_by_a_lesser_rule(self):
        book = read_book("a; b > - / a > 2 a / -")
        grove = read_grove("b")
        rows = [("kind", "a", 0, number(1)), ("tree", ("a", ()), number(1))]
        for rule, ladder in [(0, "1"), (2, "3"), (1, "3"), (2, "z"), (0, "z"), (1, "1")]:
            told = read_ladder(ladder)
            self.wrong(book, grove, rows + [("kind", "b", rule, told), ("tree", ("b", ()), told), ("grove", grove, told)])
        told = read_ladder("z")
        self.assertIs(is_table(book, grove, rows + [("kind", "b", 1, told), ("tree", ("b", ()), told), ("grove", grove, told)]), True)
        self.assertEqual(kinds_of(grove), ["b"])
