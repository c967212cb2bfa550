import copy
import random
import unittest

from felltimber.errors import NoGrove
from felltimber.trees import deep_of, grove_of, is_grove, is_tree, parts_of, size, together
from tests.makers import SIXTY, SIXTY_NINES, groves, odd_things, random_pairs, stem

A = ("a", ())
B = ("b", ())
HOLDER = ("a", ((B, 2),))
NO_NAMES = ["", "abcdefghi", "A", "a1", "a ", " a", "a\n", "\n", "a_b", "a-b", "\u00e9", "\u00df", "1", "-", "{"]


def within(grove, levels):
    """The thing as a grove so many levels below."""
    for turn in range(levels):
        grove = ((("c", grove), 3),)
    return grove


class Kinds(unittest.TestCase):

    def is_no_grove(self, thing):
        for levels in range(12):
            self.assertIs(is_grove(within(thing, levels)), False, (levels, thing))
            self.assertIs(is_tree(("c", within(thing, levels))), False, (levels, thing))
        self.assertIs(is_grove(((A, 1), (("b", thing), 1))), False, thing)
        self.assertIs(is_grove(((("a", thing), 1), (B, 1))), False, thing)

    def is_no_tree(self, thing):
        self.assertIs(is_tree(thing), False, thing)
        self.is_no_grove(((thing, 1),))
        with self.assertRaises(NoGrove):
            grove_of([(A, 1), (thing, 1)])

    def test_groves_and_trees(self):
        for grove in [(), ((A, 1),), ((A, 2), (B, SIXTY)), ((A, 1), (HOLDER, 1), (B, 1)), ((HOLDER, 10 ** 3999),)]:
            self.assertIs(is_grove(grove), True)
            self.assertIs(is_tree(("abcdefgh", grove)), True)

    def test_made_groves(self):
        for grove in groves(1, 300):
            self.assertIs(is_grove(grove), True)
            self.assertIs(is_tree(("z", grove)), True)

    def test_deep_ones(self):
        for levels in range(61):
            self.assertIs(is_grove(stem(levels)), True)
            self.assertIs(is_tree(("a", stem(levels))), True)

    def test_a_tree_is_no_grove_and_a_grove_no_tree(self):
        self.is_no_grove(A)
        self.is_no_grove(HOLDER)
        self.is_no_tree(((A, 1),))
        self.is_no_tree(())

    def test_things_of_other_kinds(self):
        for thing in odd_things() + [0, 1, True, False, [], [(A, 1)]]:
            self.is_no_grove(thing)
            self.is_no_tree(thing)
            self.is_no_tree(("a", thing))

    def test_a_list_where_a_tuple_belongs(self):
        self.is_no_grove([(A, 1)])
        self.is_no_grove(([A, 1],))
        self.is_no_tree(["a", ()])
        self.is_no_tree(("a", []))

    def test_things_too_many_or_too_few(self):
        for pair in [(), (A,), (A, 1, 1), ("a", (), 1), (1, A), "ab", ["a", 1], 1, None]:
            self.is_no_grove((pair,))
        for tree in [("a",), ("a", (), ()), ("a", (), 1), ((), "a")]:
            self.is_no_tree(tree)

    def test_many_that_are_none(self):
        for many in odd_things() + [0, -1, -SIXTY, True, False, "1", (1,), [1]]:
            self.is_no_grove(((A, many),))
            with self.assertRaises(NoGrove):
                grove_of([(B, 2), (A, many)])

    def test_names_that_are_none(self):
        for name in NO_NAMES + [None, 1, True, b"a", ("a",), ["a"], {"a": 1}]:
            self.is_no_tree((name, ()))
            self.is_no_tree((name, ((A, 1),)))

    def test_names(self):
        for name in ["a", "z", "m", "abcdefgh", "zzzzzzzz", "none"]:
            self.assertIs(is_tree((name, ())), True)

    def test_pairs_in_the_wrong_order_or_twice(self):
        self.is_no_grove(((B, 1), (A, 1)))
        self.is_no_grove(((A, 1), (A, 1)))
        self.is_no_grove(((A, 1), (A, 2)))
        self.is_no_grove(((HOLDER, 1), (A, 1)))
        self.is_no_grove(((A, 1), (B, 1), (HOLDER, 1)))
        self.is_no_grove(((("a", ((B, 3),)), 1), (HOLDER, 1)))

    def test_one_twice_within_itself_is_answered_at_once(self):
        thing = ((A, 1),) * 60
        for turn in range(12):
            thing = ((("a", thing), 1),) * 60
        self.assertIs(is_grove(thing), False)


class Put(unittest.TestCase):

    def counted(self, pairs):
        """The many of each tree, as a list of pairs without an order."""
        row = []
        for tree, many in pairs:
            at = [pair[0] for pair in row].index(tree) if tree in [pair[0] for pair in row] else -1
            if at < 0:
                row.append((tree, many))
            else:
                row[at] = (tree, row[at][1] + many)
        return tuple(sorted(row))

    def test_grove_of(self):
        self.assertEqual(grove_of([]), ())
        self.assertEqual(grove_of([(B, 1), (A, 2)]), ((A, 2), (B, 1)))
        self.assertEqual(grove_of([(B, 3), (A, 2), (B, 1), (A, SIXTY)]), ((A, SIXTY + 2), (B, 4)))
        self.assertEqual(grove_of([(HOLDER, 3), (A, 2), (HOLDER, 1)]), ((A, 2), (HOLDER, 4)))

    def test_grove_of_any_order(self):
        chance = random.Random(7)
        for turn in range(200):
            pairs = random_pairs(chance, 3, 5)
            kept = copy.deepcopy(pairs)
            told = grove_of(pairs)
            self.assertEqual(pairs, kept)
            self.assertIs(is_grove(told), True)
            self.assertEqual(told, self.counted(pairs))
            self.assertEqual(grove_of(list(told)), told)

    def test_grove_of_is_another_one_for_no_change_of_the_list(self):
        pairs = [(B, 1), (A, 1)]
        told = grove_of(pairs)
        pairs.append((B, 5))
        self.assertEqual(told, ((A, 1), (B, 1)))

    def test_grove_of_other_lists(self):
        for thing in odd_things() + [0, True, A, [A, 1], (A,), (A, 1, 1), (A, 0), ("a", 1), (B, -1), (1, A), ((), 1)]:
            for some in ([thing], [(A, 1), thing], [thing, (A, 1)], [(B, 1), thing, (A, 1)]):
                length = len(some)
                with self.assertRaises(NoGrove):
                    grove_of(some)
                self.assertEqual(len(some), length)
        with self.assertRaises(NoGrove):
            grove_of([(("a", ((B, 1), (A, 1))), 1)])

    def test_together(self):
        self.assertEqual(together((), ()), ())
        self.assertEqual(together(((A, 1),), ((A, 2), (B, 1))), ((A, 3), (B, 1)))
        self.assertEqual(together(((B, 1),), ((A, 2), (HOLDER, 4))), ((A, 2), (HOLDER, 4), (B, 1)))
        self.assertEqual(together(((A, SIXTY_NINES),), ((A, 1),)), ((A, 10 ** 60),))

    def test_together_from_either_side(self):
        row = groves(8, 30, 3)
        for one in row:
            self.assertEqual(together(one, ()), one)
            self.assertEqual(together((), one), one)
            for other in row:
                told = together(one, other)
                self.assertIs(is_grove(told), True)
                self.assertEqual(told, together(other, one))
                self.assertEqual(told, self.counted(one + other))
                self.assertEqual(size(told), size(one) + size(other))


class Measures(unittest.TestCase):

    def measured(self, grove, wanted):
        self.assertEqual((parts_of(grove), deep_of(grove), size(grove)), wanted)

    def test_measures(self):
        self.measured((), (0, 0, 0))
        self.measured(((A, 1),), (1, 1, 1))
        self.measured(((A, 5), (B, 1)), (2, 1, 6))
        self.measured(((HOLDER, 5),), (2, 2, 15))
        self.measured(((A, 1), (HOLDER, 2), (B, 7)), (4, 2, 14))
        self.measured(((("c", ((A, 1), (HOLDER, 3))), 10), (("d", ((B, 1),)), 1)), (6, 3, 112))

    def test_great_numbers(self):
        great = 10 ** 3999
        self.measured(((A, great),), (1, 1, great))
        self.measured(((("a", ((B, SIXTY),)), SIXTY_NINES),), (2, 2, SIXTY_NINES * (SIXTY + 1)))

    def test_stems(self):
        for levels in range(61):
            self.measured(stem(levels), (levels, levels, levels))
