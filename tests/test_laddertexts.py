import unittest

from felltimber.errors import NoLadder
from felltimber.ladders import deep, is_ladder, number, parts
from felltimber.laddertexts import read_ladder, show_ladder
from tests.makers import SIXTY, SIXTY_NINES, ladders, spoiled, tower

ONE = (((), 1),)
ENDLESS = ((ONE, 1),)


def tower_text(deepest):
    """The text of a ladder so deep, with brackets alone: z[z[..]]."""
    return "z[" * (deepest - 2) + "z" + "]" * (deepest - 2)


class Show(unittest.TestCase):

    def test_texts(self):
        for ladder, text in [
            ((), "0"), (ONE, "1"), (number(12), "12"), (ENDLESS, "z"), (((ONE, 2),), "z*2"),
            (((number(2), 1),), "z[2]"), (((number(2), 7), ((), 1)), "z[2]*7+1"), (((ENDLESS, 1),), "z[z]"),
            (((((ONE, 1), ((), 1)), 3), (ONE, 2), ((), 5)), "z[z+1]*3+z*2+5"), (tower(12), tower_text(12)),
            (number(SIXTY), str(SIXTY)), (((ONE, SIXTY_NINES),), "z*" + "9" * 60),
        ]:
            self.assertEqual(show_ladder(ladder), text)
            self.assertEqual(read_ladder(text), ladder)

    def test_there_and_back(self):
        read = 0
        for ladder in ladders(5, 400):
            if parts(ladder) <= 60:
                read += 1
                self.assertEqual(read_ladder(show_ladder(ladder)), ladder)
        self.assertGreater(read, 300)

    def test_what_is_told_is_shown_beyond_the_bounds_of_reading(self):
        self.assertEqual(show_ladder(number(10 ** 3999)), "1" + "0" * 3999)
        self.assertEqual(show_ladder(((ONE, 10 ** 3999),)), "z*1" + "0" * 3999)
        self.assertEqual(show_ladder(tower(60)), tower_text(60))
        wide = tuple((number(many), 1) for many in range(2500, 1, -1))
        self.assertEqual(show_ladder(wide), "+".join(f"z[{many}]" for many in range(2500, 1, -1)))


class Read(unittest.TestCase):

    def refused(self, text):
        with self.assertRaises(NoLadder, msg=text):
            read_ladder(text)

    def test_texts_that_no_ladder_shows(self):
        for text in [
            "", "+", "+1", "1+", "z+", "+z", "z++1", "z*1", "z*0", "z*", "*2", "z*z", "2*z", "z2", "zz", "z[2]2", "z[1]",
            "z[0]", "z[]", "z[", "z]", "[2]", "z[2", "z2]", "z[2]]", "z[[2]]", "z[2]*2*2", "z*2[2]", "z[2][2]", "z[z*1]",
            "z[z[1]]", "z[z[0]]", "z[0+1]", "z[1+0]", "00", "01", "z+01", "z*02", "z[02]", "z+0", "0+1", "0+z", "-1", "+0",
            "-0", "1_0", "1_", "_1", "z*1_0", "z*+2", "z*-2", "z[+2]", "z[-2]", "z+-1", " ", "\t", "\n", "Z", "y", "z^2",
            "z[2)", "z(2)", "1.0", "1e3", "0x1", "()", "None", "one",
        ]:
            self.refused(text)

    def test_blanks_tabs_and_line_feeds_at_any_place(self):
        text = "z[z+1]*3+z*2+5"
        self.assertTrue(is_ladder(read_ladder(text)))
        for at in range(len(text) + 1):
            for sign in " \t\n":
                self.refused(text[:at] + sign + text[at:])
        for text in ["0", "12", "z"]:
            for sign in " \t\n":
                self.refused(text + sign)
                self.refused(sign + text)
        self.refused("1 2")

    def test_pairs_in_the_wrong_order_or_twice(self):
        for text in [
            "1+z", "1+1", "2+1", "z+z", "z*2+z", "z+z[2]", "z[2]+z[3]", "z[2]+z[2]", "z[z]+z[z+1]", "z[z+z]", "z[1+z]",
            "z[z[2]+z[z]]", "z+1+1", "z+1+z", "z[2]+1+z", "z[2+2]",
        ]:
            self.refused(text)

    def test_brackets_that_do_not_close(self):
        for text in ["z[z", "z[z[2]", "z[z[2]]]", "z[2]+z]", "z[2+1", "z[z[z[z", "]", "["]:
            self.refused(text)
        for many in (13, 100, 1000, 2000):
            self.refused("z[" * many)
            self.refused(("z[" * many + "z" + "]" * many)[:4000])
            self.refused("]" * many)
            self.refused("[" * many)

    def test_sixty_figures(self):
        for shape in ["{}", "z*{}", "z[{}]", "z[z[{}]*2]+1", "z+{}"]:
            self.assertTrue(is_ladder(read_ladder(shape.format(SIXTY))))
            self.assertTrue(is_ladder(read_ladder(shape.format(SIXTY_NINES))))
            self.refused(shape.format(10 ** 60))
            self.refused(shape.format("0" * 60 + "1"))
            self.refused(shape.format("9" * 3900))
        self.refused("9" * 4000)
        self.refused("9" * 5000)

    def test_sixty_parts(self):
        # Each pair with a number as its exponent has two parts, but the last ones one.
        wide = "+".join(f"z[{many}]" for many in range(30, 1, -1))
        self.assertEqual(parts(read_ladder(wide + "+z")), 60)
        self.refused(wide + "+z+1")
        self.assertEqual(parts(read_ladder(wide + "+5")), 59)
        self.refused("+".join(f"z[{many}]" for many in range(900, 1, -1))[:4000])
        inner = "+".join(f"z[{many}]" for many in range(30, 2, -1))
        self.assertEqual(parts(read_ladder(f"z[{inner}+z]+1")), 60)
        self.refused(f"z[{inner}+z+1]+1")
        self.refused(f"z[{inner}+z]+z")

    def test_twelve_deep(self):
        self.assertEqual(deep(read_ladder(tower_text(12))), 12)
        self.refused(tower_text(13))
        numbered = "z[" * 11 + "2" + "]" * 11
        self.assertEqual(deep(read_ladder(numbered)), 12)
        self.refused("z[" * 12 + "2" + "]" * 12)
        self.refused("z[" * 12 + "z" + "]" * 12)

    def test_only_what_is_shown_is_read(self):
        for text in ["0", "5", "10", "z", "z+1", "z*2", "z[2]", "z[2]*10+z+1", "z[z+1]*3+z*2+5", "z[z[2]*2]+z[10]"]:
            for near in spoiled(text):
                try:
                    ladder = read_ladder(near)
                except NoLadder:
                    continue
                self.assertTrue(is_ladder(ladder), near)
                self.assertEqual(show_ladder(ladder), near)
