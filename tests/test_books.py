import copy
import unittest

from felltimber.books import Book
from felltimber.errors import NoBook, NoKind
from tests.makers import names_of, odd_things, stem

A = ("a", ())
B = ("b", ())
HOLDER = ("b", ((A, 2),))
NOTHING = ((), ())
LIMIT = 10 ** 9


class Books(unittest.TestCase):

    def told(self, kinds):
        """The book of the kinds tells just these."""
        book = Book(kinds)
        self.assertEqual(book.names(), [kind[0] for kind in kinds])
        for name, spreading, rules in kinds:
            self.assertIs(book.spreads(name), spreading)
            self.assertEqual(book.rules(name), rules)

    def refused(self, kinds):
        kept = list(kinds)
        with self.assertRaises(NoBook, msg=kinds):
            Book(kinds)
        self.assertEqual(len(kinds), len(kept))

    def test_one_and_eight_kinds(self):
        self.told([("a", False, [])])
        self.told([("a", True, [])])
        self.told([(name, name < "ae", []) for name in reversed(names_of(8))])
        self.told([("abcdefgh", True, []), ("z", False, [])])

    def test_none_and_four_rules(self):
        self.told([("a", False, [(((A, 1),), ())]), ("b", True, [])])
        self.told([("a", False, [NOTHING] * 4), ("b", True, [(((A, many),), ((HOLDER, 1),)) for many in (4, 3, 2, 1)])])

    def test_rules_of_four_parts_and_great_many(self):
        four = ((A, 1), (("a", ((A, 1), (B, 1))), LIMIT))
        self.told([("a", False, [(four, ()), ((), four), (((A, LIMIT),), ((A, 1), (HOLDER, 1)))]), ("b", True, [])])
        self.told([("a", False, [(((A, LIMIT),), ((("a", ((A, LIMIT),)), LIMIT),)), (stem(4), ()), (stem(2), stem(2))])])

    def test_kinds_that_stand_ahead_of_their_row_or_in_their_own(self):
        self.told([("a", False, [(((B, 1),), ((A, 1),))]), ("b", False, [(((A, 1),), ((B, 1),))])])

    def test_changes_of_what_was_handed_in(self):
        rules = [(((A, 1),), ())]
        kinds = [("a", True, rules), ("b", False, [])]
        kept = copy.deepcopy(kinds)
        book = Book(kinds)
        self.assertEqual(kinds, kept)
        rules.append(NOTHING)
        rules[0] = ((), ((B, 1),))
        kinds[1][2].append(NOTHING)
        kinds.pop()
        kinds[0] = ("c", False, [])
        self.assertEqual(book.names(), ["a", "b"])
        self.assertIs(book.spreads("a"), True)
        self.assertIs(book.spreads("b"), False)
        self.assertEqual(book.rules("a"), kept[0][2])
        self.assertEqual(book.rules("b"), [])
        with self.assertRaises(NoKind):
            book.rules("c")

    def test_changes_of_what_was_told(self):
        book = Book([("a", True, [(((A, 1),), ())]), ("b", False, [])])
        book.names().append("c")
        book.names().reverse()
        book.rules("a").clear()
        book.rules("b").append(NOTHING)
        self.assertEqual(book.names(), ["a", "b"])
        self.assertEqual(book.rules("a"), [(((A, 1),), ())])
        self.assertEqual(book.rules("b"), [])

    def test_two_books_keep_their_own(self):
        one = Book([("a", True, [NOTHING])])
        other = Book([("b", False, [])])
        self.assertEqual((one.names(), other.names()), (["a"], ["b"]))
        self.assertEqual(one.rules("a"), [NOTHING])

    def test_no_kind(self):
        book = Book([("a", True, [NOTHING]), ("b", False, [])])
        for name in ["", "c", "A", "aa", "a ", "ab", "spreads", "x" * 4000, "\n"]:
            for asked in (book.spreads, book.rules):
                with self.assertRaises(NoKind) as caught:
                    asked(name)
                self.assertEqual(caught.exception.kind, name)
        self.assertEqual(book.names(), ["a", "b"])

    def test_no_kinds_or_too_many(self):
        self.refused([])
        self.refused([(name, False, []) for name in names_of(9)])
        self.refused([(name, False, []) for name in names_of(600)])

    def test_names_twice_or_none(self):
        self.refused([("a", False, []), ("a", False, [])])
        self.refused([("a", False, []), ("b", False, []), ("a", True, [])])
        for name in ["", "abcdefghi", "A", "a1", "a ", "\n", "\u00e9", None, 1, True, b"a", ("a",), ["a"], {}]:
            self.refused([(name, False, [])])
            self.refused([("b", False, []), (name, False, [])])

    def test_things_that_are_no_truth(self):
        for thing in odd_things() + [0, 1, "True", [], (), (True,)]:
            self.refused([("a", thing, [])])
            self.refused([("b", True, []), ("a", thing, [])])

    def test_things_that_are_no_kind(self):
        for thing in odd_things() + [
            0, True, [], (), ["a", False, []], ("a", False), ("a",), ("a", False, [], []), (False, "a", []), ("a", [], False),
        ]:
            self.refused([thing])
            self.refused([("b", True, []), thing])
            self.refused([thing, ("b", True, [])])

    def test_things_that_are_no_list_of_rules(self):
        for thing in odd_things() + [0, True, (), (NOTHING,), ((), ())]:
            self.refused([("a", False, thing)])
            self.refused([("b", False, []), ("a", False, thing)])
        self.refused([("a", False, [NOTHING] * 5)])
        self.refused([("b", False, []), ("a", False, [NOTHING] * 5)])

    def rule_refused(self, rule):
        self.refused([("a", False, [rule]), ("b", False, [])])
        self.refused([("b", False, []), ("a", False, [NOTHING, NOTHING, NOTHING, rule])])

    def grove_refused(self, grove):
        self.rule_refused((grove, ()))
        self.rule_refused(((), grove))
        self.rule_refused((((A, 1),), grove))

    def test_rules_that_are_no_tuple_of_two_groves(self):
        for thing in odd_things() + [0, True, (), ((),), ((), (), ()), [(), ()], ((), []), ([], ())]:
            self.rule_refused(thing)
        for thing in odd_things() + [
            0, True, [], A, [(A, 1)], (A,), ((A,),), ((A, 0),), ((A, -1),), ((A, True),), ((A, "1"),), ((B, 1), (A, 1)),
            ((A, 1), (A, 1)), ((("A", ()), 1),), ((("a", []), 1),), ((("a", ((B, 1), (A, 1))), 1),), ((A, 1, 1),),
        ]:
            self.grove_refused(thing)

    def test_five_parts(self):
        for once, each in [
            (stem(5), ()), ((), stem(5)), (stem(4), ((A, 1),)), (((B, 1),), stem(4)), (stem(2), stem(3)), (stem(12), ()),
            (((A, 1), (HOLDER, 1)), ((A, 1), (B, 1))),
        ]:
            self.rule_refused((once, each))

    def test_a_many_above_the_bound(self):
        for many in (LIMIT + 1, 10 ** 60, 10 ** 3999):
            self.grove_refused(((A, many),))
            self.grove_refused(((A, 1), (B, many)))
            self.grove_refused(((("b", ((A, many),)), 1),))
            self.grove_refused(((("b", ((("b", ((A, many),)), 1),)), 1),))

    def test_a_kind_that_the_book_has_not(self):
        other = ("c", ())
        self.grove_refused(((other, 1),))
        self.grove_refused(((A, 1), (other, 1)))
        self.grove_refused(((("b", ((other, 1),)), 1),))
        self.grove_refused(((("b", ((A, 1), (("b", ((other, 1),)), 1))), 1),))
        self.grove_refused(((("c", ((A, 1),)), 1),))
        self.refused([("a", False, [(((B, 1),), ())])])
