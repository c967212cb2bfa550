"""Fates: where kinds lead, which of them are endless, and ways round."""

from felltimber.errors import Endless
from felltimber.places import all_places, tree_at
from felltimber.trees import kinds_within


def steps_of(book, name):
    """All steps of a kind, each with the kind to which it leads; NoKind where the name is none of the book's."""
    found = []
    for rule, (once, each) in enumerate(book.rules(name), start=1):
        found.extend(steps_in(name, rule, "once", once))
        found.extend(steps_in(name, rule, "each", each))
    return found


def steps_in(name, rule, word, grove):
    """The steps by one grove of a rule, each with the kind to which it leads."""
    return [((name, rule, word, place), tree_at(grove, place)[0]) for place in all_places(grove)]


def leads(book, name):
    """The kinds to which a kind leads, sorted; NoKind where the name is none of the book's."""
    return sorted({kind for step, kind in steps_of(book, name)})


def ending_kinds(book):
    """The kinds that are not endless, each behind those to which it leads."""
    led = {name: leads(book, name) for name in book.names()}
    ending = []
    fresh = lead_into(led, ending)
    while fresh:
        ending.extend(fresh)
        fresh = lead_into(led, ending)
    return ending


def lead_into(led, ending):
    """The kinds that lead to some of a list alone, and are not in it."""
    return [name for name in led if name not in ending and all([kind in ending for kind in led[name]])]


def endless_kinds(book):
    """The endless kinds of a book, sorted."""
    ending = ending_kinds(book)
    return sorted([name for name in book.names() if name not in ending])


def check_ends(book, grove):
    """Endless where endless kinds stand in a grove: of the least of them."""
    endless = endless_kinds(book)
    for kind in kinds_within(grove):
        if kind in endless:
            raise Endless(kind)


def ways_from(book, name):
    """For each kind to which one comes from a kind, by one lead or more, a shortest row of steps."""
    ways = {}
    heads = [(name, [])]
    while heads:
        further = []
        for head, way in heads:
            for step, kind in steps_of(book, head):
                if kind not in ways:
                    ways[kind] = way + [step]
                    further.append((kind, ways[kind]))
        heads = further
    return ways


def way_round(book, name):
    """A way round of a kind, or None where it is not endless; NoKind where the name is none of the book's."""
    ways = ways_from(book, name)
    if name in ways:
        return [], ways[name]
    for kind in ways:
        around = ways_from(book, kind)
        if kind in around:
            return ways[kind], around[kind]
    return None
