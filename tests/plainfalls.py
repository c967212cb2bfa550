"""Falls by the document's words alone, each tree standing for itself: the tests hold the program's falls against them."""

import copy

from tests.makers import all_rules, put_together


def planted(grove):
    """Each tree of a grove as a list of its own: its kind and a list of what it holds."""
    return [[tree[0], planted(tree[1])] for tree, many in grove for turn in range(many)]


def tree_of(plant):
    return plant[0], gathered(plant[1])


def gathered(plants):
    return put_together([(tree_of(plant), 1) for plant in plants])


def taken_out(row, plant):
    at = [other is plant for other in row].index(True)
    del row[at]


def plain_fallen(book, grove, place, rule, number):
    """The grove behind a fall and the place told, whatever the bound on groves is."""
    top = planted(grove)
    row, standing, path = top, grove, []
    for at in place:
        tree = standing[at][0]
        plant = [other for other in row if tree_of(other) == tree][0]
        path.append((row, plant))
        row, standing = plant[1], tree[1]
    row, plant = path.pop()
    taken_out(row, plant)
    once, each = all_rules(book, plant[0])[rule]
    row.extend(planted(once))
    for turn in range(number):
        row.extend(planted(each))
    for row, plant in reversed(path):
        for turn in range(number if book.spreads(plant[0]) else 0):
            row.append(copy.deepcopy(plant))
    told = [[pair[0] for pair in gathered(row)].index(tree_of(plant)) for row, plant in path]
    return gathered(top), tuple(told)
