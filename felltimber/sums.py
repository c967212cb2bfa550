"""Sums of ladders: one behind the other, both together, so many of one, and the rest up to another."""

from felltimber.basics import joined, many_at
from felltimber.errors import NoRest
from felltimber.ladders import alike_ahead, is_less


def behind(one, other):
    """The other ladder behind the one."""
    if not other:
        return one
    exponent, many = other[0]
    kept = tuple([pair for pair in one if is_less(exponent, pair[0])])
    alike = many_at(one, exponent)
    return kept + ((exponent, alike + many),) + other[1:]


def both(one, other):
    """Both ladders together."""
    return all_together([one, other])


def all_together(some):
    """All ladders of a list together."""
    # One sort of all pairs: ladder by ladder, a long row of long ones would be sorted anew each time.
    pairs = [pair for ladder in some for pair in ladder]
    return joined(sorted(pairs, reverse=True))


def many_of(ladder, many):
    """So many of a ladder."""
    if many == 0:
        return ()
    return tuple([(pair[0], pair[1] * many) for pair in ladder])


def rest(one, other):
    """The ladder that, behind the one, gives the other; NoRest where the other is less."""
    if is_less(other, one):
        raise NoRest("the other ladder is less than the one")
    at = alike_ahead(one, other)
    if at == len(one) or one[at][0] != other[at][0]:
        return other[at:]
    exponent, many = other[at]
    return ((exponent, many - one[at][1]),) + other[at + 1:]
