"""The most falls of a grove where no number above a bound is said, and falls behind which they are one less."""

from felltimber.books import check_kinds, rules_from_nought
from felltimber.counts import capped, check_long, count_in
from felltimber.errors import NoPlace
from felltimber.fates import check_ends, ending_kinds
from felltimber.places import bare_places, tree_at


def most_falls(book, grove, bound):
    """The most falls of a grove by a bound; NoKind, Endless, TooLong."""
    check_kinds(book, grove)
    check_ends(book, grove)
    many = count_in(book, most_by_kind(book, bound), grove, bound)
    check_long(many)
    return many


def long_fall(book, grove, bound):
    """A fall (place, rule, number) behind which the most falls are one less; refused as they are, then NoPlace."""
    most_falls(book, grove, bound)
    if not grove:
        raise NoPlace("there are no trees")
    # Whichever bare tree falls, by its longest rule and with the bound said nothing is lost.
    place = bare_places(grove)[0]
    rows = laid_by_rule(book, most_by_kind(book, bound), tree_at(grove, place)[0], bound)
    return place, rows.index(max(rows)), bound


def most_by_kind(book, bound):
    """The most falls of a bare tree of each kind that is not endless, capped, each worked out once."""
    counts = {}
    # Each kind stands behind those to which it leads, whose counts are there when it needs them.
    for name in ending_kinds(book):
        counts[name] = capped(1 + max(laid_by_rule(book, counts, name, bound)))
    return counts


def laid_by_rule(book, counts, name, bound):
    """For each rule of a kind, from rule 0 on, the most falls of what it lays."""
    return [laid_count(book, counts, rule, bound) for rule in rules_from_nought(book, name)]


def laid_count(book, counts, rule, bound):
    """The most falls of what a rule lays where the bound is said."""
    once, each = rule
    return count_in(book, counts, once, bound) + bound * count_in(book, counts, each, bound)
