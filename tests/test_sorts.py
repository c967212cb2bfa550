import unittest

from felltimber.booktexts import read_book
from felltimber.errors import Endless
from felltimber.fates import endless_kinds
from felltimber.ladders import is_less, number
from felltimber.laddertexts import read_ladder
from felltimber.ranks import own_rank
from felltimber.sorts import sort_needed, sort_of
from tests.makers import SIXTY_NINES, books, ladders, tower

SORTS = ["number", "pair", "power", "tower"]


def is_number(ladder):
    return ladder == () or (len(ladder) == 1 and ladder[0][0] == ())


def plain_sort(ladder):
    """The sort by the document's words."""
    exponents = [pair[0] for pair in ladder]
    if all(exponent == () for exponent in exponents):
        return "number"
    if not any(is_less(number(1), exponent) for exponent in exponents):
        return "pair"
    return "power" if all(is_number(exponent) for exponent in exponents) else "tower"


class Sorts(unittest.TestCase):

    def test_at_their_edges(self):
        for sort, texts in [
            ("number", ["0", "1", "2", "9", str(SIXTY_NINES)]),
            ("pair", ["z", "z+1", "z*2", f"z*{SIXTY_NINES}", f"z*3+{SIXTY_NINES}"]),
            ("power", ["z[2]", "z[2]+1", "z[2]+z", "z[2]*5+z*3+1", f"z[{SIXTY_NINES}]+z[2]", "z[3]+5"]),
            ("tower", ["z[z]", "z[z]+1", "z[z]+z[2]+z+1", "z[z+1]", "z[z*2]", "z[z[2]]", "z[z[z]]", "z[z]*7+z[5]"]),
        ]:
            for text in texts:
                self.assertEqual(sort_of(read_ladder(text)), sort, text)

    def test_many(self):
        for ladder in ladders(181, 400) + [tower(levels) for levels in range(61)]:
            self.assertEqual(sort_of(ladder), plain_sort(ladder))


class Needed(unittest.TestCase):

    def test_the_greatest_and_the_first_kind(self):
        for text, wanted in [
            ("a", ("number", "a")), ("b; a", ("number", "b")), ("a; b > 9 a / -", ("number", "a")), ("b > 9 a / -; a", ("number", "b")),
            ("a; b > - / a", ("pair", "b")), ("a; c > b / -; b > - / a", ("pair", "c")), ("a; b > - / a; c > b / -", ("pair", "b")),
            ("a; b > - / a; c > - / b", ("power", "c")), ("d > c / -; a; b > - / a; c > - / b", ("power", "d")), ("a *; b > a{a} / -", ("pair", "b")),
            ("a *; b > a{2 a} / -", ("power", "b")), ("a *; b > a{a{a}} / -", ("tower", "b")), ("a *; c > - / b; b > a{a{a}} / -", ("tower", "c")),
            ("a *; b > a{a{a}} / -; c > - / a; d > - / c", ("tower", "b")), ("c > - / a; a *; b > a{a{a}} / -", ("tower", "b")),
        ]:
            told = sort_needed(read_book(text))
            self.assertEqual(told, wanted, text)
            self.assertIsInstance(told, tuple)

    def test_many(self):
        seen = set()
        for book in books(182, 300):
            found = [plain_sort(own_rank(book, name)) for name in book.names()]
            greatest = max(found, key=SORTS.index)
            self.assertEqual(sort_needed(book), (greatest, book.names()[found.index(greatest)]))
            seen.add(greatest)
        self.assertEqual(seen, set(SORTS))

    def test_endless(self):
        for text, kind in [
            ("a > a / -", "a"), ("b > b / -; a", "b"), ("a; c > c / -; b > c / -", "b"), ("c > b / -; b > c / -; a", "b"), ("d > d / -; a *; b > a{a{a}} / -", "d"),
        ]:
            with self.assertRaises(Endless) as caught:
                sort_needed(read_book(text))
            self.assertEqual(caught.exception.kind, kind)

    def test_endless_for_many(self):
        refused = 0
        for book in books(183, 200, ending=False):
            endless = endless_kinds(book)
            if endless:
                refused += 1
                with self.assertRaises(Endless) as caught:
                    sort_needed(book)
                self.assertEqual(caught.exception.kind, min(endless))
            else:
                self.assertIn(sort_needed(book)[0], SORTS)
        self.assertGreater(refused, 50)
