"""Sums of ladders: one behind the other, both together, so many of one, and the rest up to another."""

from felltimber.basics import joined
from felltimber.errors import NoRest
from felltimber.ladders import is_less


def behind(one, other):
    """The other ladder behind the one."""
    if not other:
        return one
    exponent, many = other[0]
    kept = tuple([pair for pair in one if is_less(exponent, pair[0])])
    alike = many_at(one, exponent)
    return kept + ((exponent, alike + many),) + other[1:]


def many_at(ladder, exponent):
    """The many of a ladder's pair of this exponent, 0 where there is none."""
    return sum([pair[1] for pair in ladder if pair[0] == exponent])


def both(one, other):
    """Both ladders together."""
    return joined(sorted(one + other, reverse=True))


def many_of(ladder, many):
    """So many of a ladder."""
    if many == 0:
        return ()
    return tuple([(pair[0], pair[1] * many) for pair in ladder])


def rest(one, other):
    """The ladder that, behind the one, gives the other; NoRest where the other is less."""
    if is_less(other, one):
        raise NoRest("the other ladder is less than the one")
    at = 0
    while at < len(one) and one[at] == other[at]:
        at += 1
    if at == len(one) or one[at][0] != other[at][0]:
        return other[at:]
    exponent, many = other[at]
    return ((exponent, many - one[at][1]),) + other[at + 1:]
