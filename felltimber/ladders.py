"""Ladders: what they are, their order, their parts and how deep they are."""

from felltimber.basics import is_many, is_rising


def is_ladder(thing):
    """Whether a thing of any kind is a ladder."""
    if not isinstance(thing, tuple):
        return False
    # A plain loop stops at the first wrong pair: what lies behind it may be of any kind.
    for pair in thing:
        if not is_ladder_pair(pair):
            return False
    return is_rising([pair[0] for pair in thing][::-1])


def is_ladder_pair(thing):
    """Whether a thing of any kind is a pair (exponent, many)."""
    return isinstance(thing, tuple) and len(thing) == 2 and is_ladder(thing[0]) and is_many(thing[1])


def number(many):
    """The ladder of a whole number from 0 on."""
    if many == 0:
        return ()
    return (((), many),)


def is_less(one, other):
    """Whether the one ladder is less than the other."""
    # Python's order of tuples is that of ladders: by the first unlike pair, in it by the
    # exponent ahead of the many, and what ends where the other goes on is less.
    return one < other


def alike_ahead(one, other):
    """How many pairs two ladders begin with that are alike."""
    at = 0
    while at < min(len(one), len(other)) and one[at] == other[at]:
        at += 1
    return at


def parts(ladder):
    """One for each pair, and the parts of its exponent."""
    return sum([1 + parts(exponent) for exponent, many in ladder])


def deep(ladder):
    """0 for nought, else one more than the deepest exponent."""
    if not ladder:
        return 0
    return 1 + max([deep(exponent) for exponent, many in ladder])
