import unittest

from felltimber.errors import NoPlace
from felltimber.grovetexts import read_grove
from felltimber.places import bare_places, tree_at
from felltimber.trees import parts_of
from tests.makers import groves, odd_things, places_with_trees, stem


class TreeAt(unittest.TestCase):

    def refused(self, grove, place):
        with self.assertRaises(NoPlace, msg=place):
            tree_at(grove, place)

    def test_each_place(self):
        for grove in groves(1, 200) + [stem(12), stem(60)]:
            places = places_with_trees(grove)
            self.assertEqual(len(places), parts_of(grove))
            for place, tree in places:
                self.assertEqual(tree_at(grove, place), tree)

    def test_a_place(self):
        grove = read_grove("2 a, b{3 c, d{a}}")
        self.assertEqual(tree_at(grove, (0,)), ("a", ()))
        self.assertEqual(tree_at(grove, (1, 0)), ("c", ()))
        self.assertEqual(tree_at(grove, (1, 1)), ("d", ((("a", ()), 1),)))
        self.assertEqual(tree_at(grove, (1, 1, 0)), ("a", ()))

    def test_no_numbers(self):
        for grove in groves(2, 20) + [()]:
            self.refused(grove, ())

    def test_numbers_beyond_the_row(self):
        for grove in groves(3, 100) + [()]:
            self.refused(grove, (len(grove),))
            self.refused(grove, (10 ** 60,))
            self.refused(grove, (-1,))
            self.refused(grove, (-len(grove),) if grove else (0,))
            for place, tree in places_with_trees(grove):
                self.refused(grove, place + (len(tree[1]),))
                self.refused(grove, place + (-1,))
                self.refused(grove, place[:-1] + (-1,))
                self.refused(grove, place[:-1] + (10 ** 3999,))

    def test_a_number_too_many_behind_a_bare_tree(self):
        grove = read_grove("2 a, b{3 c, d{a}}")
        for place in bare_places(grove):
            self.refused(grove, place + (0,))
            self.refused(grove, place + (0,) * 5000)
            self.refused(grove, place + (None,))

    def test_things_that_are_no_numbers(self):
        grove = read_grove("2 a, b{3 c, d{a}}")
        for thing in odd_things() + [True, False, "0", "1", (0,), (), [0], [], -1, -2]:
            self.refused(grove, (thing,))
            self.refused(grove, (1, thing))
            self.refused(grove, (thing, 0))
            self.refused(grove, (1, thing, 0))
            self.refused((), (thing,))


class BarePlaces(unittest.TestCase):

    def test_some(self):
        self.assertEqual(bare_places(()), [])
        self.assertEqual(bare_places(read_grove("5 a")), [(0,)])
        self.assertEqual(bare_places(read_grove("2 a, b{3 c, d{a}}, e")), [(0,), (1, 0), (1, 1, 0), (2,)])

    def test_all_of_many_groves_sorted(self):
        for grove in groves(4, 300) + [stem(12), stem(60)]:
            wanted = sorted(place for place, tree in places_with_trees(grove) if tree[1] == ())
            self.assertEqual(bare_places(grove), wanted)

    def test_a_row_of_more_than_ten(self):
        grove = read_grove(", ".join("abcdefghijklmno"))
        self.assertEqual(bare_places(grove), [(at,) for at in range(15)])

    def test_told_again_behind_a_change(self):
        for grove in groves(5, 50) + [()]:
            told = bare_places(grove)
            kept = list(told)
            told.append((9, 9))
            told.reverse()
            self.assertEqual(bare_places(grove), kept)
