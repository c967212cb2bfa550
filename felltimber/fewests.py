"""The fewest falls of a grove that a hand can do with, whatever the other one says up to a bound."""

from felltimber.books import check_kinds
from felltimber.counts import check_long, count_in
from felltimber.errors import NoPlace
from felltimber.places import bare_places


def fewest_falls(book, grove, bound):
    """The fewest falls of a grove by a bound; NoKind, TooLong."""
    check_kinds(book, grove)
    # By rule 0 nothing grows, so that a bare tree of any kind, an endless one too, needs but one fall.
    many = count_in(book, {name: 1 for name in book.names()}, grove, bound)
    check_long(many)
    return many


def short_fall(book, grove, bound):
    """A place and a rule behind which the fewest falls are less; refused as they are, then NoPlace."""
    fewest_falls(book, grove, bound)
    if not grove:
        raise NoPlace("there are no trees")
    return bare_places(grove)[0], 0
