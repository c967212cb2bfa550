import random
import unittest

from felltimber.climbs import above, power, spread
from felltimber.ladders import deep, is_ladder, is_less, number
from felltimber.laddertexts import read_ladder, show_ladder
from felltimber.sums import behind, both, many_of
from tests.makers import SIXTY, ladders, lesser, tower

GREAT = 10 ** 80
SOME = ["0", "1", "7", "z", "z+1", "z*2+3", "z[2]", "z[2]*5+z*3", "z[z]", "z[z]+z[2]*4+9", "z[z+1]*3+z*2+5", "z[z[2]+z]*2+z[z]"]


def row():
    return [read_ladder(text) for text in SOME] + ladders(71, 25, 3) + [tower(12)]


class Climbs(unittest.TestCase):

    def told(self, deed, one, other, wanted):
        self.assertEqual(show_ladder(deed(read_ladder(one), read_ladder(other))), wanted, (one, other))

    def test_power(self):
        self.assertEqual(power(()), number(1))
        for text, wanted in [("0", "1"), ("1", "z"), ("5", "z[5]"), ("z", "z[z]"), ("z[2]*3+z+1", "z[z[2]*3+z+1]")]:
            self.assertEqual(show_ladder(power(read_ladder(text))), wanted)
        for ladder in row():
            self.assertEqual(power(ladder), ((ladder, 1),))
            self.assertTrue(is_ladder(power(ladder)))
            self.assertEqual(deep(power(ladder)), deep(ladder) + 1)

    def test_above_where_the_other_is_nought(self):
        for one, wanted in [("0", "1"), ("1", "2"), ("7", "8"), ("z", "z+1"), ("z[z]+z*2+9", "z[z]+z*2+10"), ("z[2]", "z[2]+1")]:
            self.told(above, one, "0", wanted)

    def test_above_where_exponents_are_greater_like_and_less(self):
        self.told(above, "0", "1", "z")
        self.told(above, "5", "1", "z")
        self.told(above, "5", "900", "z")
        self.told(above, "z+5", "3", "z*2")
        self.told(above, "z[2]+z*3+7", "2", "z[2]+z*4")
        self.told(above, "0", "z", "z[2]")
        self.told(above, "z*5+3", "z+1", "z[2]")
        self.told(above, "z[2]*2+z", "z", "z[2]*3")
        self.told(above, "z[3]+z[2]*2+z+1", "z*4+1", "z[3]+z[2]*3")
        self.told(above, "z[z]+z", "z[3]*2+z[2]", "z[z]+z[4]")
        self.told(above, "z[z+1]*2+z[z]*7+z", "z[z]", "z[z+1]*3")
        self.told(above, "z[z+2]+z[z]*7+z", "z[z]+z[9]", "z[z+2]+z[z+1]")
        self.told(above, "z[2]", "z[z]", "z[z+1]")

    def test_above_is_greater_and_the_least(self):
        chance = random.Random(72)
        for one in row():
            for other in row():
                told = above(one, other)
                self.assertTrue(is_ladder(told))
                for many in (0, 1, 2, SIXTY, GREAT):
                    self.assertTrue(is_less(both(one, many_of(other, many)), told))
                for turn in range(4):
                    low = lesser(chance, told)
                    self.assertTrue(is_ladder(low) and is_less(low, told))
                    self.assertFalse(is_less(both(one, many_of(other, GREAT)), low))

    def test_spread_over_nought(self):
        for one in row():
            if one:
                self.assertEqual(spread(one, ()), one)

    def test_spread(self):
        self.told(spread, "1", "1", "z")
        self.told(spread, "7", "4", "z[4]")
        self.told(spread, "7", "z", "z[z]")
        self.told(spread, "z", "1", "z[2]")
        self.told(spread, "z*9", "1", "z[2]")
        self.told(spread, "z[2]*3+z+5", "z", "z[z]")
        self.told(spread, "z[2]*3+z+5", "3", "z[5]")
        self.told(spread, "z[z]*2+5", "3", "z[z+3]")
        self.told(spread, "z[z]+z[5]", "z[2]", "z[z[2]]")
        self.told(spread, "z[z[2]+z]", "z+1", "z[z[2]+z*2+1]")

    def test_spread_has_one_pair_and_is_above_all_of_lesser_ones(self):
        chance = random.Random(73)
        for one in row():
            for other in row():
                if one and other:
                    told = spread(one, other)
                    self.assertTrue(is_ladder(told))
                    self.assertEqual(told, ((behind(one[0][0], other), 1),))
                    low = spread(one, lesser(chance, other))
                    self.assertTrue(is_less(many_of(low, GREAT), told))
