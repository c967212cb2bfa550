"""Ranks: how far kinds and groves can fall at most."""

from felltimber.books import check_kind, check_kinds, rules_from_nought
from felltimber.climbs import above, spread
from felltimber.errors import Endless
from felltimber.fates import check_ends, ending_kinds
from felltimber.sums import all_together, behind, many_of


def own_rank(book, name):
    """The own rank of a kind; NoKind where the name is none of the book's, Endless where it has none."""
    check_kind(book, name)
    found = own_ranks(book)
    if name not in found:
        raise Endless(name)
    return found[name]


def rank(book, grove):
    """The rank of a grove; NoKind of kinds that the book has not, Endless of kinds that have no own rank."""
    check_kinds(book, grove)
    check_ends(book, grove)
    return reckoned(book, own_ranks(book), grove)


def own_ranks(book):
    """The own rank of each kind of a book that is not endless, each worked out once."""
    found = {}
    # Each kind stands behind those to which it leads, whose own ranks are there when it needs them.
    for name in ending_kinds(book):
        found[name] = max([climb(book, found, rule) for rule in rules_from_nought(book, name)])
    return found


def climb(book, worths, rule):
    """Above what a rule lays once and each of what it lays as often as is said, by a ladder for each kind."""
    once, each = rule
    return above(reckoned(book, worths, once), reckoned(book, worths, each))


def reckoned(book, worths, grove):
    """The ladder of a grove, reckoned as ranks are by a ladder for each kind."""
    return all_together([many_of(reckoned_tree(book, worths, tree), many) for tree, many in grove])


def reckoned_tree(book, worths, tree):
    """The ladder of a tree, reckoned as ranks are by a ladder for each kind."""
    kind, held = tree
    return laden(book, kind, worths[kind], reckoned(book, worths, held))


def laden(book, kind, own, inner):
    """The ladder of a tree by that of its kind and that of the grove that it holds."""
    if book.spreads(kind):
        return spread(own, inner)
    return behind(own, inner)
