"""Worths: ladders given to the kinds of a book, and the rules that are at fault by them."""

from felltimber.books import check_kinds
from felltimber.errors import NoWorths
from felltimber.ladders import is_ladder, is_less
from felltimber.ranks import climb, reckoned


def worth(book, worths, grove):
    """The worth of a grove; NoKind of kinds that the book has not, NoWorths of any other dict."""
    check_kinds(book, grove)
    check_worths(book, worths)
    return reckoned(book, worths, grove)


def fault(book, worths):
    """The first rule that is at fault, as (name, rule), or None; NoWorths of any other dict."""
    check_worths(book, worths)
    # Rule 0 is left out: above nothing lies 1, and no worth is less than that.
    for name in book.names():
        for at, rule in enumerate(book.rules(name), start=1):
            if is_less(worths[name], climb(book, worths, rule)):
                return name, at
    return None


def check_worths(book, worths):
    """NoWorths where a dict has not a ladder, not nought, for each kind of a book, and for nothing else."""
    names = book.names()
    if len(worths) != len(names):
        raise NoWorths("there are too many or too few kinds")
    for name in names:
        if name not in worths or not is_ladder(worths[name]) or not worths[name]:
            raise NoWorths("a kind has no ladder, or nought")
