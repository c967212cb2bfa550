"""Falls: a bare tree is struck off, and by a rule of its kind other things grow."""

from felltimber.basics import is_whole
from felltimber.books import check_kinds, rules_from_nought
from felltimber.errors import NoNumber, NoPlace, NoRule, TooGreat
from felltimber.places import bare_places, number_of, tree_at
from felltimber.trees import deep_of, parts_of, times, together, without

MOST_PARTS_STANDING = 2000
MOST_DEEP_STANDING = 60


def fallen(book, grove, place, rule, number):
    """The grove behind a fall, and the place of the changed tree that held the struck one, or ()."""
    check_kinds(book, grove)
    kind, held = tree_at(grove, place)
    if held:
        raise NoPlace("the tree there is not bare")
    told = rule_at(book, kind, rule)
    check_number(number)
    left, changed = struck(book, grove, place, grown(told, number), number)
    check_bound(left)
    return left, changed


def rule_at(book, kind, rule):
    """The rule of a kind by its number, 0 too; NoRule of any other thing."""
    rows = rules_from_nought(book, kind)
    if not is_whole(rule) or not 0 <= rule < len(rows):
        raise NoRule("the kind has no such rule")
    return rows[rule]


def check_number(thing):
    """NoNumber where a thing of any kind is no whole number from 0 on."""
    if not is_whole(thing) or thing < 0:
        raise NoNumber("what is said is no whole number from 0 on")


def check_bound(grove):
    """TooGreat where a grove is beyond the bound on groves."""
    if parts_of(grove) > MOST_PARTS_STANDING or deep_of(grove) > MOST_DEEP_STANDING:
        raise TooGreat("the grove would have too many parts or be too deep")


def grown(rule, number):
    """What a rule lays where a number is said."""
    once, each = rule
    return together(once, times(each, number))


def further_ones(book, kind, number):
    """How many further trees come to stand beside a changed holder of a kind."""
    if book.spreads(kind):
        return number
    return 0


def struck(book, grove, place, fresh, number):
    """The grove with the tree at a place struck off and fresh ones in its stead, and the place of its holder."""
    tree = grove[place[0]][0]
    left = without(grove, tree, 1)
    if len(place) == 1:
        return together(left, fresh), ()
    kind, held = tree
    inner, path = struck(book, held, place[1:], fresh, number)
    changed = (kind, inner)
    row = together(left, ((changed, 1 + further_ones(book, kind, number)),))
    return row, (number_of(row, changed),) + path


def choices(book, grove):
    """All tuples (place, rule) of bare trees and the rules of their kinds, rule 0 too, sorted."""
    check_kinds(book, grove)
    found = []
    for place in bare_places(grove):
        rows = rules_from_nought(book, tree_at(grove, place)[0])
        found.extend([(place, rule) for rule in range(len(rows))])
    return found
