"""Falls that reach a ladder: behind them the rank is no less than it."""

from felltimber.basics import many_at
from felltimber.books import check_kinds, rules_from_nought
from felltimber.errors import NoReach
from felltimber.fates import check_ends
from felltimber.ladders import is_less
from felltimber.ranks import climb, own_ranks, reckoned, reckoned_tree
from felltimber.sums import all_together, behind, many_of, rest


def fall_to(book, grove, ladder):
    """A fall (place, rule, number) that reaches a ladder; NoReach where that is not less than the rank."""
    check_kinds(book, grove)
    check_ends(book, grove)
    owns = own_ranks(book)
    if not is_less(ladder, reckoned(book, owns, grove)):
        raise NoReach("the ladder is not less than the rank")
    return fall_in_grove(book, owns, grove, ladder)


def fall_in_grove(book, owns, grove, goal):
    """A fall in a grove that reaches a goal, which is less than the grove's rank."""
    ladders = [reckoned_tree(book, owns, tree) for tree, many in grove]
    whole = all_together([many_of(ladder, many) for ladder, (tree, many) in zip(ladders, grove)])
    # A tree to whose rank the least pair of the whole belongs: whatever it loses, the whole loses no more.
    at = [ladder[-1][0] for ladder in ladders].index(whole[-1][0])
    place, rule, number = fall_in_tree(book, owns, grove[at][0], goal_of_one(whole, ladders[at], goal))
    return (at,) + place, rule, number


def goal_of_one(whole, ladder, goal):
    """What a tree must reach, so that the whole, whose least pair is of its ladder's exponent, reaches the goal."""
    return behind(lowered(ladder), rest_or_nought(lowered(whole), goal))


def lowered(ladder):
    """A ladder, not nought, with the many of its last pair one less."""
    exponent, many = ladder[-1]
    if many == 1:
        return ladder[:-1]
    return ladder[:-1] + ((exponent, many - 1),)


def rest_or_nought(one, other):
    """The rest of the one ladder up to the other, or nought where that is less."""
    if is_less(other, one):
        return ()
    return rest(one, other)


def fall_in_tree(book, owns, tree, goal):
    """A fall in a tree that reaches a goal, less than the tree's rank; its place begins within what the tree holds."""
    kind, held = tree
    if not held:
        rule, number = fall_of_bare(book, owns, kind, goal)
        return (), rule, number
    if not book.spreads(kind):
        return fall_in_grove(book, owns, held, rest_or_nought(owns[kind], goal))
    exponent = goal[0][0] if goal else ()
    place, rule, number = fall_in_grove(book, owns, held, rest_or_nought(owns[kind][0][0], exponent))
    return place, rule, max(number, further_needed(goal))


def further_needed(goal):
    """How many trees beside one, all of a rank no less than the power of a goal's first exponent, reach the goal."""
    if not goal:
        return 0
    many = goal[0][1]
    return many if len(goal) > 1 else many - 1


def fall_of_bare(book, owns, kind, goal):
    """The rule and the number of a fall of a bare tree that reaches a goal, less than the kind's own rank."""
    rows = rules_from_nought(book, kind)
    # The rule by which the own rank is so great: what it lays comes above each lesser ladder.
    at = [climb(book, owns, rule) for rule in rows].index(owns[kind])
    once, each = rows[at]
    if not is_less(reckoned(book, owns, once), goal):
        return at, 0
    # What grows once is too little, so that something grows as often as is said: one more than the goal has of it.
    return at, 1 + many_at(goal, reckoned(book, owns, each)[0][0])
