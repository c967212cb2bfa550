"""Climbs: the power of a ladder, what lies above one and each of another, and the spread over another."""

from felltimber.ladders import is_less, number
from felltimber.sums import behind, both


def power(ladder):
    """The power of a ladder."""
    return ((ladder, 1),)


def above(one, other):
    """The least ladder that is greater than the one together with so many of the other, for each number."""
    if not other:
        return both(one, number(1))
    exponent = other[0][0]
    kept = tuple([pair for pair in one if is_less(exponent, pair[0])])
    return both(kept, power(behind(exponent, number(1))))


def spread(one, other):
    """The spread of the one ladder, that is not nought, over the other."""
    if not other:
        return one
    return power(behind(one[0][0], other))
