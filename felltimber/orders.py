"""In how many orders the trees of a grove can be struck off one by one."""

from felltimber.errors import TooLong
from felltimber.trees import size

MOST_TREES = 400


def orders(grove):
    """The orders of a grove, all its trees taken as unlike; TooLong where they are too many trees."""
    many = size(grove)
    if many > MOST_TREES:
        raise TooLong("there are too many trees")
    return product(list(range(1, many + 1))) // product(sizes_within(grove))


def sizes_within(grove):
    """The sizes of all trees that stand anywhere in a grove of few trees, each tree for itself."""
    found = []
    for tree, many in grove:
        found.extend(([1 + size(tree[1])] + sizes_within(tree[1])) * many)
    return found


def product(numbers):
    """The product of a list of numbers."""
    told = 1
    for number in numbers:
        told *= number
    return told
