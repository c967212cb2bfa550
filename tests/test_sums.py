import unittest

from felltimber.errors import NoRest
from felltimber.ladders import is_ladder, is_less, number
from felltimber.laddertexts import read_ladder, show_ladder
from felltimber.sums import behind, both, many_of, rest
from tests.makers import SIXTY_NINES, ladders, tower

SOME = ["0", "1", "7", "z", "z+1", "z*2", "z*2+3", "z[2]", "z[2]+z+1", "z[2]*5+z*3", "z[z]", "z[z]+z[2]*4+9", "z[z+1]*3+z*2+5"]


class Sums(unittest.TestCase):

    def told(self, deed, one, other, wanted):
        self.assertEqual(show_ladder(deed(read_ladder(one), read_ladder(other))), wanted, (one, other))

    def row(self):
        return [read_ladder(text) for text in SOME] + ladders(4, 20, 3) + [tower(12)]

    def test_behind(self):
        self.told(behind, "z", "1", "z+1")
        self.told(behind, "1", "z", "z")
        self.told(behind, "3", "4", "7")
        self.told(behind, "z+1", "z", "z*2")
        self.told(behind, "z*2+9", "z*3+1", "z*5+1")
        self.told(behind, "z[2]+z+5", "z[2]*2", "z[2]*3")
        self.told(behind, "z[z]+z[2]*4+9", "z[2]+z", "z[z]+z[2]*5+z")
        self.told(behind, "z[z]+z[2]*4+9", "z[3]+z", "z[z]+z[3]+z")
        self.told(behind, "z[z]+z[3]*4+9", "z[2]+z", "z[z]+z[3]*4+z[2]+z")
        self.told(behind, "z[2]+1", "z[z]", "z[z]")

    def test_behind_with_nought(self):
        for ladder in self.row():
            self.assertEqual(behind(ladder, ()), ladder)
            self.assertEqual(behind((), ladder), ladder)

    def test_behind_keeps_its_laws(self):
        row = self.row()
        for one in row:
            for other in row:
                told = behind(one, other)
                self.assertTrue(is_ladder(told))
                self.assertEqual(is_less(one, told), other != ())
                self.assertFalse(is_less(told, other))
                for third in row[::3]:
                    self.assertEqual(behind(told, third), behind(one, behind(other, third)))

    def test_both(self):
        self.told(both, "z", "1", "z+1")
        self.told(both, "1", "z", "z+1")
        self.told(both, "3", "4", "7")
        self.told(both, "z+1", "z", "z*2+1")
        self.told(both, "z[z]+z[2]*4+9", "z[3]+z[2]+z", "z[z]+z[3]+z[2]*5+z+9")
        self.told(both, "z[2]+z+5", "z[2]*2+5", "z[2]*3+z+10")

    def test_both_with_nought(self):
        for ladder in self.row():
            self.assertEqual(both(ladder, ()), ladder)
            self.assertEqual(both((), ladder), ladder)

    def test_both_by_exponents(self):
        row = self.row()
        for one in row:
            for other in row:
                told = both(one, other)
                self.assertTrue(is_ladder(told))
                self.assertEqual(both(other, one), told)
                wanted = [pair[0] for pair in one]
                wanted += [pair[0] for pair in other if pair[0] not in wanted]
                self.assertEqual(sorted(wanted, reverse=True), [pair[0] for pair in told])
                for exponent, many in told:
                    self.assertEqual(many, sum(pair[1] for pair in one + other if pair[0] == exponent))

    def test_many_of(self):
        for text, many, wanted in [
            ("z[2]*3+z+5", 4, "z[2]*12+z*4+20"), ("z+1", 1, "z+1"), ("z+1", 0, "0"), ("0", 9, "0"), ("0", 0, "0"),
            ("7", 0, "0"), ("7", 6, "42"),
        ]:
            self.assertEqual(show_ladder(many_of(read_ladder(text), many)), wanted)
        self.assertEqual(many_of(number(SIXTY_NINES), SIXTY_NINES), number(SIXTY_NINES ** 2))

    def test_many_of_is_both_so_often(self):
        for ladder in self.row():
            told = ()
            for many in range(6):
                self.assertEqual(many_of(ladder, many), told)
                told = both(told, ladder)

    def test_rest(self):
        self.told(rest, "0", "z[z]+1", "z[z]+1")
        self.told(rest, "3", "7", "4")
        self.told(rest, "7", "7", "0")
        self.told(rest, "5", "z", "z")
        self.told(rest, "z", "z+4", "4")
        self.told(rest, "z+4", "z*2", "z")
        self.told(rest, "z+4", "z*3+1", "z*2+1")
        self.told(rest, "z[2]*2+z+4", "z[2]*2+z*5+3", "z*4+3")
        self.told(rest, "z[2]*2+7", "z[2]*2+z*5+3", "z*5+3")
        self.told(rest, "z[2]*2+z", "z[z]+z[2]*2", "z[z]+z[2]*2")
        self.told(rest, "0", "0", "0")

    def test_rest_gives_the_other_or_is_refused(self):
        row = self.row()
        for one in row:
            self.assertEqual(rest(one, one), ())
            self.assertEqual(rest((), one), one)
            for other in row:
                if is_less(other, one):
                    with self.assertRaises(NoRest):
                        rest(one, other)
                else:
                    told = rest(one, other)
                    self.assertTrue(is_ladder(told))
                    self.assertEqual(behind(one, told), other)
                self.assertEqual(rest(one, behind(one, other)), other)

    def test_great_numbers(self):
        great = 10 ** 3999
        self.assertEqual(behind(number(great), number(great)), number(2 * great))
        self.assertEqual(both(number(great), number(1)), number(great + 1))
        self.assertEqual(rest(number(1), number(great)), number(great - 1))
        self.assertEqual(many_of(number(great), 3), number(3 * great))
