"""Rows of falls without an end."""

from felltimber.books import check_kind
from felltimber.errors import NotEndless
from felltimber.falls import choices, fallen
from felltimber.fates import endless_kinds
from felltimber.trees import kinds_within, parts_of


def endless_row(book, name, long):
    """So many falls (grove, place, rule, number) from a bare tree on, an endless kind standing behind each."""
    check_kind(book, name)
    endless = endless_kinds(book)
    if name not in endless:
        raise NotEndless("the falls of the kind end")
    grove = (((name, ()), 1),)
    row = []
    while len(row) < long:
        left, fall = smallest(falls_on(book, endless, grove))
        row.append((grove,) + fall)
        grove = left
    return row


def falls_on(book, endless, grove):
    """Falls behind which an endless kind stands somewhere, each with the grove behind it."""
    # There is one: what an endless tree holds, without an endless kind in it, is struck off by rule 0, and a bare one
    # falls by a rule that lays an endless kind, once or by 1. So greater numbers, that lay but more, are left out.
    found = []
    for place, rule in choices(book, grove):
        for number in (0, 1):
            left = fallen(book, grove, place, rule, number)[0]
            if any([kind in endless for kind in kinds_within(left)]):
                found.append((left, (place, rule, number)))
    return found


def smallest(falls):
    """The fall that leaves the fewest parts: so a long row stays within the bound on groves."""
    return min(falls, key=lambda pair: parts_of(pair[0]))
