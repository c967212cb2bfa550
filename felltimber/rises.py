"""Rises: falls taken back."""

from felltimber.basics import many_at
from felltimber.books import check_kind, check_kinds
from felltimber.errors import NoRise
from felltimber.falls import check_bound, check_number, further_ones, grown, rule_at
from felltimber.places import number_of, tree_at
from felltimber.trees import together, without


def risen(book, grove, place, kind, rule, number):
    """The grove ahead of a fall, and the place of the bare tree that it struck off."""
    check_kinds(book, grove)
    check_kind(book, kind)
    if place != ():
        tree_at(grove, place)
    told = rule_at(book, kind, rule)
    check_number(number)
    ahead, bare = raised(book, grove, place, (kind, ()), grown(told, number), number)
    check_bound(ahead)
    return ahead, bare


def raised(book, grove, place, bare, laid, number):
    """The grove with what was laid taken away at a place and a bare tree put in, and the place of that."""
    if place == ():
        return exchanged(grove, laid, bare, ())
    tree = grove[place[0]][0]
    kind, held = tree
    inner, path = raised(book, held, place[1:], bare, laid, number)
    gone = ((tree, 1 + further_ones(book, kind, number)),)
    return exchanged(grove, gone, (kind, inner), path)


def exchanged(grove, gone, tree, path):
    """The grove with one tree in the place of some, and a path that leads through it; NoRise where there are fewer."""
    left = grove
    for other, many in gone:
        if many_at(left, other) < many:
            raise NoRise("there is not enough to be taken away")
        left = without(left, other, many)
    row = together(left, ((tree, 1),))
    return row, (number_of(row, tree),) + path
