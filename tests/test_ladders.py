import unittest

from felltimber.ladders import deep, is_ladder, is_less, number, parts
from tests.makers import SIXTY, SIXTY_NINES, ladder_order, ladders, odd_things, tower

ONE = (((), 1),)
TWO = (((), 2),)
ENDLESS = ((ONE, 1),)


def within(thing, levels):
    """The thing as an exponent so many levels below."""
    for turn in range(levels):
        thing = ((thing, 1),)
    return thing


class IsLadder(unittest.TestCase):

    def is_no_ladder(self, thing):
        # Deep within, and behind a right pair, it is none either.
        for levels in range(12):
            self.assertIs(is_ladder(within(thing, levels)), False, (levels, thing))
        self.assertIs(is_ladder(((ENDLESS, 1), (thing, 1))), False, thing)
        self.assertIs(is_ladder(((thing, 1), ((), 1))), False, thing)

    def test_ladders(self):
        for ladder in [(), ONE, TWO, ENDLESS, ((ENDLESS, 3), (ONE, 2), ((), 5)), ((TWO, 1), (ONE, 1))]:
            self.assertIs(is_ladder(ladder), True, ladder)

    def test_made_ladders(self):
        for ladder in ladders(1, 300):
            self.assertIs(is_ladder(ladder), True, ladder)

    def test_up_to_twelve_deep_and_beyond(self):
        for levels in range(61):
            self.assertIs(is_ladder(tower(levels)), True, levels)

    def test_great_many(self):
        for many in (SIXTY, SIXTY_NINES, 10 ** 60, 10 ** 3999):
            self.assertIs(is_ladder((((), many),)), True)

    def test_many_parts(self):
        wide = tuple((number(many), 1) for many in range(5000, -1, -1))
        self.assertIs(is_ladder(wide), True)
        self.assertIs(is_ladder(wide + (((), 1),)), False)

    def test_things_of_other_kinds(self):
        for thing in odd_things() + [0, 1, -1, True, False, 10 ** 3999, [], [((), 1)]]:
            self.is_no_ladder(thing)

    def test_a_list_where_a_tuple_belongs(self):
        self.is_no_ladder([])
        self.is_no_ladder([((), 1)])
        self.is_no_ladder(([(), 1],))
        self.is_no_ladder((([], 1),))

    def test_pairs_of_other_lengths(self):
        for pair in [(), ((),), ((), 1, 1), ((), 1, ()), ((), ())]:
            self.is_no_ladder((pair,))

    def test_pairs_that_are_none(self):
        for thing in odd_things() + [0, 1, True, "ab", ["a", 1]]:
            self.is_no_ladder((thing,))

    def test_many_that_are_no_whole_numbers_from_one_on(self):
        for many in odd_things() + [True, False, 0, -1, -SIXTY, "1", [1], (1,), ()]:
            self.is_no_ladder((((), many),))

    def test_exponents_that_are_no_ladders(self):
        for exponent in odd_things() + [0, 1, True, False, [], (1,), ((1, 1),), ((), 1)]:
            self.is_no_ladder(((exponent, 1),))

    def test_exponents_alike_or_in_the_wrong_order(self):
        self.is_no_ladder((((), 1), ((), 1)))
        self.is_no_ladder((((), 2), ((), 1)))
        self.is_no_ladder(((ONE, 1), (ONE, 2)))
        self.is_no_ladder((((), 1), (ONE, 1)))
        self.is_no_ladder(((ONE, 9), (TWO, 1)))
        self.is_no_ladder(((TWO, 1), (ENDLESS, 1), ((), 1)))
        self.is_no_ladder(((ENDLESS, 1), (TWO, 1), (TWO, 1), ((), 1)))
        self.is_no_ladder(((ENDLESS, 1), ((), 1), (TWO, 1)))

    def test_one_twice_within_itself_is_answered_at_once(self):
        thing = (((), 1),) * 60
        for turn in range(12):
            thing = ((thing, 1),) * 60
        self.assertIs(is_ladder(thing), False)


class IsLess(unittest.TestCase):

    def rises(self, row):
        for at, one in enumerate(row):
            for behind, other in enumerate(row):
                self.assertIs(is_less(one, other), at < behind, (one, other))

    def test_the_one_ends_where_the_other_goes_on(self):
        self.rises([(), ONE])
        self.rises([ENDLESS, ((ONE, 1), ((), 1))])
        self.rises([((ENDLESS, 2),), ((ENDLESS, 2), ((), 1)), ((ENDLESS, 2), (ONE, 1)), ((ENDLESS, 2), (ONE, 1), ((), 1))])

    def test_the_first_difference_is_an_exponent(self):
        self.rises([(((), SIXTY),), ENDLESS, ((TWO, 1),), ((ENDLESS, 1),)])
        self.rises([((ENDLESS, 1), ((), 9)), ((ENDLESS, 1), (ONE, 1)), ((ENDLESS, 1), (TWO, 1))])

    def test_the_first_difference_is_a_many(self):
        self.rises([ONE, TWO, (((), 10),)])
        self.rises([((ONE, 2), ((), 9)), ((ONE, 3),), ((ONE, 10), ((), 1))])
        self.rises([((ENDLESS, 1), (ONE, 1), ((), 9)), ((ENDLESS, 1), (ONE, 2))])

    def test_the_first_difference_lies_deep_within(self):
        self.rises([within(ladder, 11) for ladder in [(), ONE, TWO, ENDLESS, ((ONE, 1), ((), 1)), ((ONE, 2),)]])

    def test_like_ladders(self):
        for ladder in ladders(2, 50):
            self.assertIs(is_less(ladder, ladder), False)

    def test_by_the_words_of_the_document(self):
        row = ladders(3, 60) + [tower(levels) for levels in range(13)]
        for one in row:
            for other in row:
                self.assertIs(is_less(one, other), ladder_order(one, other) < 0, (one, other))

    def test_great_numbers(self):
        self.rises([number(SIXTY), number(SIXTY_NINES), number(10 ** 60), number(10 ** 3999), ENDLESS])


class Measures(unittest.TestCase):

    def test_number(self):
        self.assertEqual(number(0), ())
        self.assertEqual(number(1), ONE)
        self.assertEqual(number(SIXTY_NINES), (((), SIXTY_NINES),))
        self.assertEqual(number(10 ** 3999), (((), 10 ** 3999),))
        for many in range(20):
            self.assertIs(is_ladder(number(many)), True)

    def test_parts(self):
        self.assertEqual(parts(()), 0)
        self.assertEqual(parts(number(SIXTY)), 1)
        self.assertEqual(parts(ENDLESS), 2)
        self.assertEqual(parts(((ENDLESS, 3), (ONE, 2), ((), 5))), 6)
        for levels in range(13):
            self.assertEqual(parts(tower(levels)), levels)

    def test_deep(self):
        self.assertEqual(deep(()), 0)
        self.assertEqual(deep(number(SIXTY)), 1)
        self.assertEqual(deep(ENDLESS), 2)
        self.assertEqual(deep(((ENDLESS, 3), (ONE, 2), ((), 5))), 3)
        # Of a lesser exponent with more levels the deepest counts, whichever pair it stands in.
        self.assertEqual(deep(((((ENDLESS, 1), ((), 1)), 1), (ENDLESS, 1))), 4)
        self.assertEqual(deep(((((TWO, 2),), 1), (((TWO, 1), (ONE, 1)), 1))), 3)
        for levels in range(61):
            self.assertEqual(deep(tower(levels)), levels)
