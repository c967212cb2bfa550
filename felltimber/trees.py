"""Trees and groves: what they are, and how they are put together and measured."""

from felltimber.basics import is_many, is_name, is_rising, joined
from felltimber.errors import NoGrove


def is_tree(thing):
    """Whether a thing of any kind is a tree."""
    return isinstance(thing, tuple) and len(thing) == 2 and is_name(thing[0]) and is_grove(thing[1])


def is_grove(thing):
    """Whether a thing of any kind is a grove."""
    if not isinstance(thing, tuple) or not are_grove_pairs(thing):
        return False
    return is_rising([pair[0] for pair in thing])


def are_grove_pairs(things):
    """Whether each of some things of any kind is a pair (tree, many)."""
    # A plain loop stops at the first wrong pair: what lies behind it may be of any kind.
    for thing in things:
        if not isinstance(thing, tuple) or len(thing) != 2:
            return False
        if not is_tree(thing[0]) or not is_many(thing[1]):
            return False
    return True


def grove_of(some):
    """The grove of a list of pairs in any order; NoGrove where it holds anything else."""
    if not are_grove_pairs(some):
        raise NoGrove("the list holds something that is no pair of a tree and a many")
    return joined(sorted(some))


def together(one, other):
    """Two groves together."""
    return joined(sorted(one + other))


def without(grove, tree, many):
    """A grove without so many of a tree, of which no fewer stand there."""
    left = []
    for other, count in grove:
        if other != tree:
            left.append((other, count))
        elif count > many:
            left.append((other, count - many))
    return tuple(left)


def times(grove, many):
    """Each many of a grove so many times."""
    if many == 0:
        return ()
    return tuple([(tree, count * many) for tree, count in grove])


def pairs_within(grove):
    """All pairs that stand anywhere in a grove, also in what its trees hold."""
    found = []
    for pair in grove:
        found.append(pair)
        found.extend(pairs_within(pair[0][1]))
    return found


def kinds_within(grove):
    """The kinds of which trees stand anywhere in a grove, sorted, each once."""
    return sorted({tree[0] for tree, many in pairs_within(grove)})


def parts_of(grove):
    """One for each pair, and the parts of its tree's grove."""
    return len(pairs_within(grove))


def deep_of(grove):
    """0 for no trees, else one more than the deepest grove of its trees."""
    if not grove:
        return 0
    return 1 + max([deep_of(tree[1]) for tree, many in grove])


def size(grove):
    """How many trees stand anywhere in a grove."""
    return sum([many * (1 + size(tree[1])) for tree, many in grove])
