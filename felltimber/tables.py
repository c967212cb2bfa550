"""Tables: the rank of a grove with all that it rests on, row by row."""

from felltimber.basics import is_whole
from felltimber.books import check_kinds, rules_from_nought
from felltimber.climbs import above
from felltimber.fates import check_ends
from felltimber.grovetexts import show_tree
from felltimber.ladders import is_ladder
from felltimber.ranks import laden
from felltimber.sums import all_together, many_of
from felltimber.trees import is_grove, is_tree


class Known:
    """The ladders of the rows so far: by the names of kinds, and by the texts of trees."""

    def __init__(self, book):
        self.book = book
        self.by_kind = {}
        self.by_tree = {}

    def has_trees(self, grove):
        """Whether each tree of a grove has a row."""
        return all([show_tree(tree) in self.by_tree for tree, many in grove])

    def of_grove(self, grove):
        """The ladder of a grove whose trees have rows."""
        return all_together([many_of(self.by_tree[show_tree(tree)], many) for tree, many in grove])

    def of_tree(self, tree):
        """The ladder of a tree whose kind and whose held trees have rows."""
        kind, held = tree
        return laden(self.book, kind, self.by_kind[kind], self.of_grove(held))

    def of_rules(self, name):
        """The ladder of each rule of a kind, from rule 0 on, where the trees in them have rows."""
        return [above(self.of_grove(once), self.of_grove(each)) for once, each in rules_from_nought(self.book, name)]


def table(book, grove):
    """A right table for a grove; NoKind of kinds that the book has not, Endless of kinds that have no own rank."""
    check_kinds(book, grove)
    check_ends(book, grove)
    known = Known(book)
    rows = []
    add_trees(known, rows, grove)
    rows.append(("grove", grove, known.of_grove(grove)))
    return rows


def add_trees(known, rows, grove):
    """Adds rows for the trees of a grove that have none, each behind those that it needs."""
    for tree, many in grove:
        if show_tree(tree) not in known.by_tree:
            add_kind(known, rows, tree[0])
            add_trees(known, rows, tree[1])
            ladder = known.of_tree(tree)
            known.by_tree[show_tree(tree)] = ladder
            rows.append(("tree", tree, ladder))


def add_kind(known, rows, name):
    """Adds a row for a kind that has none, behind those that it needs."""
    if name in known.by_kind:
        return
    for once, each in rules_from_nought(known.book, name):
        add_trees(known, rows, once)
        add_trees(known, rows, each)
    ladders = known.of_rules(name)
    own = max(ladders)
    known.by_kind[name] = own
    rows.append(("kind", name, ladders.index(own), own))


def is_table(book, grove, thing):
    """Whether a thing of any kind is a right table for a grove; NoKind of kinds that the book has not."""
    check_kinds(book, grove)
    if not isinstance(thing, list) or not thing:
        return False
    known = Known(book)
    # Where a kind is endless no row of it can be right: what it needs ahead would need it ahead.
    for row in thing[:-1]:
        if not takes(known, row):
            return False
    return is_last(known, grove, thing[-1])


def takes(known, thing):
    """Whether a thing of any kind is a right row behind those so far, one of which it is then."""
    if is_row(thing, "kind", 4):
        return takes_kind(known, thing[1], thing[2], thing[3])
    return is_row(thing, "tree", 3) and takes_tree(known, thing[1], thing[2])


def is_row(thing, word, long):
    """Whether a thing of any kind is a tuple so long that begins with a word."""
    return isinstance(thing, tuple) and len(thing) == long and isinstance(thing[0], str) and thing[0] == word


def takes_kind(known, name, rule, thing):
    """Whether a kind's row is right, which is then one of those so far."""
    if not isinstance(name, str) or name not in known.book.names() or name in known.by_kind:
        return False
    rows = rules_from_nought(known.book, name)
    if not is_whole(rule) or not 0 <= rule < len(rows):
        return False
    # A tree within another one has a row, too, for that one's row needs it.
    if not all([known.has_trees(grove) for row in rows for grove in row]):
        return False
    ladders = known.of_rules(name)
    if not is_same(thing, max(ladders)) or ladders[rule] != thing:
        return False
    known.by_kind[name] = thing
    return True


def takes_tree(known, tree, thing):
    """Whether a tree's row is right, which is then one of those so far."""
    if not is_tree(tree) or show_tree(tree) in known.by_tree:
        return False
    if tree[0] not in known.by_kind or not known.has_trees(tree[1]) or not is_same(thing, known.of_tree(tree)):
        return False
    known.by_tree[show_tree(tree)] = thing
    return True


def is_last(known, grove, thing):
    """Whether a thing of any kind is the right row of a grove behind those so far."""
    if not is_row(thing, "grove", 3) or not is_grove(thing[1]) or thing[1] != grove:
        return False
    return known.has_trees(grove) and is_same(thing[2], known.of_grove(grove))


def is_same(thing, ladder):
    """Whether a thing of any kind is this ladder."""
    # Python holds truths for like 0 and 1: no ladder has them.
    return is_ladder(thing) and thing == ladder
