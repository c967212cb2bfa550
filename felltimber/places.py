"""Places in groves."""

from felltimber.basics import is_whole
from felltimber.errors import NoPlace


def tree_at(grove, place):
    """The tree at a place of a grove; NoPlace where the tuple is none."""
    if not place:
        raise NoPlace("a place has at least one number")
    tree = ()
    row = grove
    for at in place:
        # Python takes numbers below 0 and truths as places, too: here they are none.
        if not is_whole(at) or not 0 <= at < len(row):
            raise NoPlace("no tree stands there")
        tree = row[at][0]
        row = tree[1]
    return tree


def number_of(grove, tree):
    """The number of the pair of a tree that stands in a grove."""
    return [pair[0] for pair in grove].index(tree)


def all_places(grove):
    """The places of all trees of a grove, sorted."""
    found = []
    for at, pair in enumerate(grove):
        found.append((at,))
        found.extend([(at,) + place for place in all_places(pair[0][1])])
    return found


def bare_places(grove):
    """The places of all bare trees of a grove, sorted."""
    # Row by row and inward, so the places come in their order.
    found = []
    for at, pair in enumerate(grove):
        held = pair[0][1]
        if held:
            found.extend([(at,) + place for place in bare_places(held)])
        else:
            found.append((at,))
    return found
