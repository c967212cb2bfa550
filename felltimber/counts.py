"""How many falls there are in a grove, by a bound on what is said and by how many a bare tree of each kind has."""

from felltimber.errors import TooLong

TOO_LONG = (10 ** 60) ** 5


def capped(many):
    """A number, or the bound on numbers of falls where it is greater."""
    # All counts only grow by what they are made of, so what lies above the bound need not be known.
    return min(many, TOO_LONG)


def check_long(many):
    """TooLong where a number of falls reaches the bound on them."""
    if many >= TOO_LONG:
        raise TooLong("there are too many falls")


def count_in(book, counts, grove, bound):
    """The falls of a grove, capped: its trees fall each by itself."""
    return capped(sum([many * count_of(book, counts, tree, bound) for tree, many in grove]))


def count_of(book, counts, tree, bound):
    """The falls of a tree, capped."""
    kind, held = tree
    inner = count_in(book, counts, held, bound)
    if book.spreads(kind):
        return spread_count(counts[kind], inner, bound)
    return capped(counts[kind] + inner)


def spread_count(own, inner, bound):
    """The falls of a spreading tree, capped, by those of it bare and by those of what it holds."""
    if bound == 0:
        return capped(own + inner)
    # Each fall within leaves so many of the tree and one: the count at least doubles, and is soon at its cap.
    many = own
    left = inner
    while left > 0 and many < TOO_LONG:
        many = 1 + (1 + bound) * many
        left -= 1
    return capped(many)
