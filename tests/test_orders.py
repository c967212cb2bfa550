import copy
import math
import random
import unittest

from felltimber.errors import TooLong
from felltimber.grovetexts import read_grove
from felltimber.orders import orders
from felltimber.trees import size
from tests.makers import SIXTY, grove_on, stem


def holders(grove, holder=None, row=None):
    """For each tree of a grove, each standing for itself, the number of the one that holds it, or None."""
    row = [] if row is None else row
    for (kind, held), many in grove:
        for turn in range(many):
            row.append(holder)
            holders(held, len(row) - 1, row)
    return row


def counted(grove):
    """In how many orders the trees can be struck off, counted one by one: a tree behind all that it holds."""
    row = holders(grove)
    known = {frozenset(): 1}

    def ways(left):
        if left not in known:
            bare = [tree for tree in left if not any(row[other] == tree for other in left)]
            known[left] = sum(ways(left - {tree}) for tree in bare)
        return known[left]

    return ways(frozenset(range(len(row))))


class Orders(unittest.TestCase):

    def test_some(self):
        for text, wanted in [
            ("-", 1), ("a", 1), ("2 a", 2), ("3 a", 6), ("a, b", 2), ("a, 2 b", 6), ("a{a}", 1), ("a{a{a{a}}}", 1), ("a{2 a}", 2), ("a{3 b}", 6),
            ("a, b{a}", 3), ("2 a{a}", 6), ("a{a, b{c}}", 3), ("2 a{2 b}", 80), ("3 c{2 a}", 13440),
        ]:
            self.assertEqual(orders(read_grove(text)), wanted, text)

    def test_against_a_count_of_all_orders(self):
        chance = random.Random(171)
        compared = 0
        for turn in range(400):
            grove = grove_on(chance, ["a", "b"], chance.randint(0, 6), (1, 1, 2))
            if size(grove) <= 9:
                kept = copy.deepcopy(grove)
                self.assertEqual(orders(grove), counted(grove))
                self.assertEqual(grove, kept)
                compared += 1
        self.assertGreater(compared, 200)

    def test_rows_of_bare_trees(self):
        for many in (1, 5, 60, 399, 400):
            self.assertEqual(orders(((("a", ()), many),)), math.factorial(many))
            self.assertEqual(orders(((("a", ()), many), (("b", ()), 400 - many))[:2 if many < 400 else 1]), math.factorial(400 if many < 400 else many))

    def test_trees_within_one_another(self):
        for levels in range(61):
            self.assertEqual(orders(stem(levels)), 1)
        self.assertEqual(orders(read_grove("200 a{b}")), math.factorial(400) // 2 ** 200)
        self.assertEqual(orders(read_grove("a{399 b}")), math.factorial(399))
        self.assertEqual(orders(read_grove("20 a{19 b}")), math.factorial(400) // 20 ** 20)

    def test_four_hundred_and_one(self):
        for text in ["400 a", "a{399 a}", "200 a{a}", "100 a{3 a}", "8 a{7 a{6 a}}"]:
            grove = read_grove(text)
            self.assertGreater(orders(grove), 0)
            self.assertLessEqual(size(grove), 400)
        for text in ["401 a", "a{400 a}", "a, 200 b{a}", "8 a{7 a{6 a}}, b", "a{a{a{398 a}}}"]:
            grove = read_grove(text)
            if size(grove) > 400:
                with self.assertRaises(TooLong):
                    orders(grove)
        self.assertEqual(size(read_grove("8 a{7 a{6 a}}, b")), 401)

    def test_great_many(self):
        for grove in [((("a", ()), SIXTY),), ((("a", ((("b", ()), SIXTY),)), 1),), ((("a", ((("b", ()), 10 ** 3999),)), 10 ** 3999),), read_grove("21 a{20 b}")]:
            with self.assertRaises(TooLong):
                orders(grove)
