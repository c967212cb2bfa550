"""Books: kinds of trees, whether they spread, and their rules."""

from felltimber.basics import is_name
from felltimber.errors import NoBook, NoKind
from felltimber.trees import is_grove, kinds_within, pairs_within

MOST_KINDS = 8
MOST_RULES = 4
MOST_RULE_PARTS = 4
MOST_MANY = 10 ** 9

NO_GROVES = ((), ())


class Book:
    """Kinds by their names, in the order in which they were told."""

    def __init__(self, kinds):
        if not are_kinds(kinds):
            raise NoBook("the list is no book's")
        # Tuples of its own: the lists that were handed in stay with their owner.
        self.spread_by_name = {name: spreading for name, spreading, rows in kinds}
        self.rows_by_name = {name: tuple(rows) for name, spreading, rows in kinds}

    def names(self):
        """The names of the kinds, as told."""
        return list(self.spread_by_name)

    def spreads(self, name):
        """Whether the kind spreads; NoKind where it is none of the book's."""
        check_kind(self, name)
        return self.spread_by_name[name]

    def rules(self, name):
        """The rules of the kind from 1 on; NoKind where it is none of the book's."""
        check_kind(self, name)
        return list(self.rows_by_name[name])


def rules_from_nought(book, name):
    """The rules of a kind, each at its own number: rule 0, which lays nothing, is the first."""
    return [NO_GROVES] + book.rules(name)


def check_kind(book, name):
    """NoKind where a text is none of a book's kinds."""
    if name not in book.names():
        raise NoKind(name)


def check_kinds(book, grove):
    """NoKind where kinds stand in a grove that a book has not: of the least of them."""
    for kind in kinds_within(grove):
        check_kind(book, kind)


def are_kinds(things):
    """Whether a list of anything holds the kinds of a book."""
    if not 1 <= len(things) <= MOST_KINDS:
        return False
    for thing in things:
        if not is_kind(thing):
            return False
    names = [thing[0] for thing in things]
    if len(set(names)) != len(names):
        return False
    return all([is_rule_of(rule, names) for thing in things for rule in thing[2]])


def is_kind(thing):
    """Whether a thing of any kind is a name, a truth and a list of rules, whatever kinds stand in these."""
    if not isinstance(thing, tuple) or len(thing) != 3:
        return False
    name, spreading, rows = thing
    if not is_name(name) or not isinstance(spreading, bool):
        return False
    return isinstance(rows, list) and len(rows) <= MOST_RULES and all([is_rule(row) for row in rows])


def is_rule(thing):
    """Whether a thing of any kind is two groves within the bounds on rules."""
    if not isinstance(thing, tuple) or len(thing) != 2:
        return False
    once, each = thing
    if not is_grove(once) or not is_grove(each):
        return False
    pairs = pairs_within(once) + pairs_within(each)
    return len(pairs) <= MOST_RULE_PARTS and all([many <= MOST_MANY for tree, many in pairs])


def is_rule_of(rule, names):
    """Whether only kinds of these names stand anywhere in a rule."""
    once, each = rule
    return all([tree[0] in names for tree, many in pairs_within(once) + pairs_within(each)])
