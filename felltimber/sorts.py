"""Sorts of ladders, and the one that a book needs."""

from felltimber.errors import Endless
from felltimber.fates import endless_kinds
from felltimber.ladders import is_less, number
from felltimber.ranks import own_ranks

SORTS = ("number", "pair", "power", "tower")


def sort_of(ladder):
    """The sort of a ladder."""
    exponents = [exponent for exponent, many in ladder]
    if not any(exponents):
        return "number"
    if not any([is_less(number(1), exponent) for exponent in exponents]):
        return "pair"
    if all([sort_of(exponent) == "number" for exponent in exponents]):
        return "power"
    return "tower"


def sort_needed(book):
    """The greatest sort that an own rank of a book has, and the first kind, as told, whose own rank has it."""
    endless = endless_kinds(book)
    if endless:
        raise Endless(endless[0])
    ladders = own_ranks(book)
    rows = [(SORTS.index(sort_of(ladders[name])), name) for name in book.names()]
    greatest = max([at for at, name in rows])
    return SORTS[greatest], [name for at, name in rows if at == greatest][0]
