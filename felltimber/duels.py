"""Duels: two hands fall by turns, each in its own grove by its own book."""

from felltimber.books import check_kinds
from felltimber.errors import NoReach
from felltimber.falls import fallen
from felltimber.fates import check_ends
from felltimber.ladders import is_less
from felltimber.ranks import rank
from felltimber.reaches import fall_to


def outlasts(book, grove, other_book, other):
    """Whether the hand of the first grove, beginning, outlasts the other's; NoKind, Endless of the one, the other."""
    check_hands(book, grove, other_book, other)
    return is_less(rank(other_book, other), rank(book, grove))


def check_hands(book, grove, other_book, other):
    """NoKind of the first grove, then of the other, then Endless likewise."""
    check_kinds(book, grove)
    check_kinds(other_book, other)
    check_ends(book, grove)
    check_ends(other_book, other)


class Duel:
    """What stands before each hand, and whose turn it is."""

    def __init__(self, book, grove, other_book, other):
        check_hands(book, grove, other_book, other)
        self.books = (book, other_book)
        self.standing = (grove, other)
        self.hand = 0

    def turn(self):
        """The hand whose turn it is, 0 or 1."""
        return self.hand

    def groves(self):
        """What stands before the two hands."""
        return self.standing

    def fall(self, place, rule, number):
        """Does a fall of the hand whose turn it is; refused as fallen is."""
        left = fallen(self.books[self.hand], self.standing[self.hand], place, rule, number)[0]
        self.standing = (left, self.standing[1]) if self.hand == 0 else (self.standing[0], left)
        self.hand = 1 - self.hand

    def answer(self):
        """A fall of the hand whose turn it is that reaches the rank of the other's grove, or None."""
        goal = rank(self.books[1 - self.hand], self.standing[1 - self.hand])
        try:
            return fall_to(self.books[self.hand], self.standing[self.hand], goal)
        except NoReach:
            return None

    def outlasted(self):
        """The hand that has been outlasted, or None."""
        if self.standing[self.hand]:
            return None
        return self.hand
