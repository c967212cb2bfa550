"""Drops: where a ladder is greater than another, and papers of falls."""

from felltimber.basics import is_whole
from felltimber.errors import NoDrop
from felltimber.falls import fallen
from felltimber.fates import check_ends
from felltimber.ladders import alike_ahead, is_less
from felltimber.ranks import own_ranks, reckoned


def drop(one, other):
    """The drop from the one ladder to the other; NoDrop where that is not less."""
    if not is_less(other, one):
        raise NoDrop("the other ladder is not less")
    at = alike_ahead(one, other)
    if at == len(other):
        return "end", at
    exponent, lesser = one[at][0], other[at][0]
    if exponent == lesser:
        return "many", at
    return "exponent", at, drop(exponent, lesser)


def is_drop(one, other, thing):
    """Whether a thing of any kind is the drop from the one ladder to the other."""
    return is_less(other, one) and is_like(drop(one, other), thing)


def is_like(told, thing):
    """Whether a thing of any kind is the drop that is told."""
    if not isinstance(thing, tuple) or len(thing) != len(told):
        return False
    if not isinstance(thing[0], str) or thing[0] != told[0]:
        return False
    # Python holds truths for like 0 and 1: here they are no numbers.
    if not is_whole(thing[1]) or thing[1] != told[1]:
        return False
    return len(told) == 2 or is_like(told[2], thing[2])


def fall_paper(book, grove, place, rule, number):
    """The paper of a fall: the ranks ahead of it and behind it, and the drop; refused as it is, then with Endless."""
    left = fallen(book, grove, place, rule, number)[0]
    check_ends(book, grove)
    ladders = own_ranks(book)
    ahead = reckoned(book, ladders, grove)
    later = reckoned(book, ladders, left)
    return ahead, later, drop(ahead, later)
